package limit_test

import (
	"fmt"
	"math"
	"math/rand"
	"slices"
	"testing"

	"groupcontrol/api"
	"groupcontrol/counter"
	"groupcontrol/limit"
	"groupcontrol/swap"
	"groupcontrol/tree"
)

func eq(a, b any) bool { return fmt.Sprint(a) == fmt.Sprint(b) }

// sample has /a (2), /a/b (3), /d (4).
func sample() api.Tree {
	return api.Tree{Next: 5, Nodes: []api.Node{{ID: 1}, {ID: 2, Parent: 1, Name: "a"}, {ID: 3, Parent: 2, Name: "b"}, {ID: 4, Parent: 1, Name: "d"}}}
}

var bad = func() api.Tree { t := sample(); t.Next = 1; return t }()

func stock(size int, numbers ...int) api.Stock {
	s := api.Stock{SwapSize: size}
	for i := 0; i < len(numbers); i += 4 {
		s.Holdings = append(s.Holdings, api.Holding{Group: numbers[i], File: numbers[i+1], Anon: numbers[i+2], Swap: numbers[i+3]})
	}
	return s
}

// config returns the settings of a group after a change of the default ones.
func config(group int, change func(*api.MemorySettings)) api.MemoryConfig {
	c := api.MemoryConfig{Group: group, Memory: api.DefaultMemory()}
	change(&c.Memory)
	return c
}

func maximum(group, n int) api.MemoryConfig {
	return config(group, func(m *api.MemorySettings) { m.Max = n })
}

func high(group, n int) api.MemoryConfig {
	return config(group, func(m *api.MemorySettings) { m.High = n })
}

type configs = []api.MemoryConfig

const most = api.MaxPages

func TestP26_1(t *testing.T) {
	for i, x := range []struct {
		t    api.Tree
		l    configs
		want bool
	}{
		{sample(), nil, true}, {bad, nil, false}, {sample(), configs{maximum(1, 0), high(4, 5)}, true}, {sample(), configs{maximum(4, 0), high(1, 5)}, false}, {sample(), configs{maximum(4, 0), high(4, 5)}, false}, {sample(), configs{maximum(5, 0)}, false}, {sample(), configs{maximum(2, -1)}, false}, {sample(), configs{maximum(2, api.MaxValue)}, true}, {sample(), configs{maximum(2, api.MaxValue+1)}, false}, {bad, configs{maximum(2, 1)}, false},
	} {
		if limit.Valid(x.t, x.l) != x.want {
			t.Error(i)
		}
	}
	odd := configs{{Group: 9, Memory: api.MemorySettings{Min: 1, SwapMax: 4}}, {Group: 3, Memory: api.MemorySettings{Low: 2, SwapMax: api.Max}}, {Group: 9, Memory: api.MemorySettings{SwapMax: 0}}, {Group: 4, Memory: api.MemorySettings{Min: -7, Low: 6, SwapMax: api.Max - 1}}}
	for id, want := range map[int]api.MemorySettings{9: odd[0].Memory, 3: odd[1].Memory, 1: api.DefaultMemory()} {
		if m := limit.Settings(odd, id); m != want {
			t.Error(id, m)
		}
	}
	if p := limit.Protections(odd); !eq(p, []api.Protection{{Group: 9, Min: 1}, {Group: 3, Low: 2}, {Group: 4, Min: -7, Low: 6}}) {
		t.Error(p)
	}
	if l := limit.Swaps(odd); !eq(l, []api.Limit{{Group: 9, Most: 4}, {Group: 9, Most: 0}, {Group: 4, Most: api.Max - 1}}) {
		t.Error(l)
	}
	if limit.Protections(nil) != nil || limit.Swaps(nil) != nil {
		t.Error("nothing")
	}
}

func shrink(group, file, anon, low int) api.Shrink {
	return api.Shrink{Group: group, File: file, Anon: anon, Low: low}
}

// compare compares a growth with what is expected, and sees that it shares no memory with the stock.
func compare(t *testing.T, i int, s api.Stock, got, want api.Growth, e, f api.Errno) {
	t.Helper()
	before := fmt.Sprint(s)
	if e != f || !eq(got, want) {
		t.Error(i, got, e)
	}
	for k := range got.Stock.Holdings {
		got.Stock.Holdings[k].Group = 99
	}
	if fmt.Sprint(s) != before {
		t.Error(i, "memory is shared")
	}
}

func TestP26_2(t *testing.T) {
	fifteen := stock(0, 2, 15, 0, 0)
	none := api.Growth{}
	for i, x := range []struct {
		t              api.Tree
		s              api.Stock
		l              configs
		id, file, anon int
		want           api.Growth
		e              api.Errno
	}{
		{sample(), fifteen, configs{maximum(2, 20)}, 2, 0, 10, api.Growth{Stock: stock(0, 2, 10, 10, 0), Shrinks: []api.Shrink{shrink(2, 5, 0, 0)}, Maxes: []int{2}}, api.OK},
		{sample(), fifteen, configs{maximum(2, 20)}, 2, 0, 30, api.Growth{Stock: stock(0), Shrinks: []api.Shrink{shrink(2, 15, 0, 0)}, Maxes: []int{2}, Refused: 2}, api.ErrMemory},
		{sample(), fifteen, configs{config(2, func(m *api.MemorySettings) { m.Max, m.High = 20, 12 })}, 2, 0, 10, api.Growth{Stock: stock(0, 2, 2, 10, 0), Shrinks: []api.Shrink{shrink(2, 5, 0, 0), shrink(2, 8, 0, 0)}, Maxes: []int{2}}, api.OK},
		{sample(), fifteen, configs{config(2, func(m *api.MemorySettings) { m.Max, m.High = 20, 5 })}, 2, 0, 10, api.Growth{Stock: stock(0, 2, 0, 10, 0), Shrinks: []api.Shrink{shrink(2, 5, 0, 0), shrink(2, 10, 0, 0)}, Maxes: []int{2}, Highs: []int{2}}, api.OK},
		{sample(), fifteen, nil, 3, 4, 5, api.Growth{Stock: stock(0, 2, 15, 0, 0, 3, 4, 5, 0)}, api.OK}, {sample(), fifteen, configs{maximum(2, 20)}, 3, 2, 3, api.Growth{Stock: stock(0, 2, 15, 0, 0, 3, 2, 3, 0)}, api.OK}, {sample(), fifteen, configs{maximum(2, 0)}, 4, 2, 3, api.Growth{Stock: stock(0, 2, 15, 0, 0, 4, 2, 3, 0)}, api.OK},
		// all groups on the way, from the group up to the root
		{sample(), stock(9, 2, 5, 0, 0, 3, 5, 5, 0, 4, 8, 0, 0), configs{maximum(1, 20), maximum(2, 14), maximum(3, 9)}, 3, 0, 4, api.Growth{Stock: stock(9, 2, 4, 0, 0, 3, 0, 9, 0, 4, 7, 0, 0), Shrinks: []api.Shrink{shrink(3, 5, 0, 0), shrink(2, 1, 0, 0), shrink(4, 1, 0, 0)}, Maxes: []int{3, 1}}, api.OK},
		{sample(), stock(9, 2, 5, 0, 0, 3, 5, 5, 0, 4, 8, 0, 0), configs{maximum(1, 20), maximum(2, 12), maximum(3, 9)}, 3, 0, 4, api.Growth{Stock: stock(9, 2, 3, 0, 0, 3, 0, 9, 0, 4, 8, 0, 0), Shrinks: []api.Shrink{shrink(3, 5, 0, 0), shrink(2, 2, 0, 0)}, Maxes: []int{3, 2}}, api.OK},
		{sample(), stock(0, 2, 5, 0, 0, 3, 0, 5, 0, 4, 0, 8, 0), configs{high(1, 12), high(2, 7), high(3, 5)}, 3, 0, 1, api.Growth{Stock: stock(0, 3, 0, 6, 0, 4, 0, 8, 0), Shrinks: []api.Shrink{shrink(2, 4, 0, 0), shrink(2, 1, 0, 0)}, Highs: []int{3, 1}}, api.OK},
		// nothing more than the protection, and a Low that is broken
		{sample(), stock(9, 2, 0, 5, 0, 3, 0, 9, 0), configs{maximum(1, 14), config(2, func(m *api.MemorySettings) { m.Min, m.Low = 12, 13 })}, 4, 1, 1, api.Growth{Stock: stock(9, 2, 0, 3, 2, 3, 0, 9, 0, 4, 1, 1, 0), Shrinks: []api.Shrink{shrink(2, 0, 2, 1)}, Maxes: []int{1}}, api.OK},
		{sample(), stock(9, 2, 0, 5, 0, 3, 0, 9, 0), configs{maximum(1, 14), config(2, func(m *api.MemorySettings) { m.Min = 13 })}, 4, 1, 1, api.Growth{Stock: stock(9, 2, 0, 4, 1, 3, 0, 9, 0), Shrinks: []api.Shrink{shrink(2, 0, 1, 0)}, Maxes: []int{1}, Refused: 1}, api.ErrMemory},
		{sample(), stock(9, 2, 0, 5, 0), configs{config(2, func(m *api.MemorySettings) { m.Max, m.SwapMax = 5, 2 })}, 2, 0, 3, api.Growth{Stock: stock(9, 2, 0, 3, 2), Shrinks: []api.Shrink{shrink(2, 0, 2, 0)}, Maxes: []int{2}, Refused: 2}, api.ErrMemory},
		// nothing is charged, but the group is above its limit
		{sample(), fifteen, configs{maximum(2, 9)}, 2, 0, 0, api.Growth{Stock: stock(0, 2, 9, 0, 0), Shrinks: []api.Shrink{shrink(2, 6, 0, 0)}, Maxes: []int{2}}, api.OK}, {sample(), stock(0, 2, 0, 15, 0), configs{maximum(2, 9)}, 2, 0, 0, api.Growth{Stock: stock(0, 2, 0, 15, 0), Maxes: []int{2}, Refused: 2}, api.ErrMemory}, {sample(), fifteen, configs{maximum(2, 15)}, 2, 0, 0, api.Growth{Stock: fifteen}, api.OK},
		// the root
		{sample(), stock(0, 4, 0, most-3, 0), nil, 2, 1, 2, api.Growth{Stock: stock(0, 2, 1, 2, 0, 4, 0, most-3, 0)}, api.OK}, {sample(), stock(0, 4, 0, most-3, 0), nil, 2, 1, 3, api.Growth{Stock: stock(0, 4, 0, most-3, 0), Maxes: []int{1}, Refused: 1}, api.ErrMemory}, {sample(), stock(0, 4, most, 0, 0), nil, 2, most, 0, api.Growth{Stock: stock(0, 2, most, 0, 0), Shrinks: []api.Shrink{shrink(4, most, 0, 0)}, Maxes: []int{1}}, api.OK}, {sample(), stock(0, 4, most, 0, 0), configs{maximum(1, most+9)}, 2, 1, 0, api.Growth{Stock: stock(0, 2, 1, 0, 0, 4, most-1, 0, 0), Shrinks: []api.Shrink{shrink(4, 1, 0, 0)}, Maxes: []int{1}}, api.OK},
		{sample(), stock(0, 4, most, 0, 0), configs{maximum(4, 0)}, 4, most, 0, api.Growth{Stock: stock(0), Shrinks: []api.Shrink{shrink(4, most, 0, 0)}, Maxes: []int{4}, Refused: 4}, api.ErrMemory},
		{bad, fifteen, nil, 9, -1, 0, none, api.ErrInvalid}, {sample(), stock(0, 2, 0, 0, 1), nil, 9, -1, 0, none, api.ErrInvalid}, {sample(), fifteen, configs{maximum(5, 1)}, 9, -1, 0, none, api.ErrInvalid}, {sample(), fifteen, nil, 5, -1, 0, none, api.ErrUnknown}, {sample(), fifteen, nil, 0, 1, 0, none, api.ErrUnknown}, {sample(), fifteen, nil, 2, -1, 2, none, api.ErrRange}, {sample(), fifteen, nil, 2, 2, -1, none, api.ErrRange}, {sample(), fifteen, nil, 2, most + 1, 0, none, api.ErrRange}, {sample(), fifteen, nil, 2, 0, most + 1, none, api.ErrRange}, {sample(), fifteen, nil, 2, most, 1, none, api.ErrRange}, {sample(), fifteen, nil, 2, math.MaxInt, math.MaxInt, none, api.ErrRange},
	} {
		got, e := limit.Grow(x.t, x.s, x.l, x.id, x.file, x.anon)
		compare(t, i, x.s, got, x.want, e, x.e)
	}
}

func TestP26_3(t *testing.T) {
	s := stock(20, 2, 4, 6, 5, 3, 0, 0, 2)
	none := api.Growth{}
	for i, x := range []struct {
		t     api.Tree
		s     api.Stock
		l     configs
		id, n int
		want  api.Growth
		e     api.Errno
	}{
		{sample(), s, nil, 2, 5, api.Growth{Stock: stock(20, 2, 4, 11, 0, 3, 0, 0, 2)}, api.OK}, {sample(), s, nil, 3, 2, api.Growth{Stock: stock(20, 2, 4, 6, 5, 3, 0, 2, 0)}, api.OK}, {sample(), s, nil, 2, 0, api.Growth{Stock: s}, api.OK},
		{sample(), s, configs{maximum(2, 10)}, 2, 3, api.Growth{Stock: stock(20, 2, 1, 9, 2, 3, 0, 0, 2), Shrinks: []api.Shrink{shrink(2, 3, 0, 0)}, Maxes: []int{2}}, api.OK}, {sample(), s, configs{maximum(2, 10)}, 2, 5, api.Growth{Stock: stock(20, 2, 0, 10, 1, 3, 0, 0, 2), Shrinks: []api.Shrink{shrink(2, 4, 1, 0)}, Maxes: []int{2}}, api.OK}, {sample(), s, configs{high(2, 10)}, 2, 5, api.Growth{Stock: stock(20, 2, 0, 10, 1, 3, 0, 0, 2), Shrinks: []api.Shrink{shrink(2, 4, 1, 0)}}, api.OK}, {sample(), s, configs{maximum(2, 3)}, 2, 5, api.Growth{Stock: stock(20, 2, 0, 0, 11, 3, 0, 0, 2), Shrinks: []api.Shrink{shrink(2, 4, 6, 0)}, Maxes: []int{2}, Refused: 2}, api.ErrMemory},
		{bad, s, nil, 9, -1, none, api.ErrInvalid}, {sample(), stock(1, 2, 0, 0, 5), nil, 9, -1, none, api.ErrInvalid}, {sample(), s, configs{maximum(5, 1)}, 9, -1, none, api.ErrInvalid}, {sample(), s, nil, 5, -1, none, api.ErrUnknown}, {sample(), s, nil, 2, -1, none, api.ErrRange}, {sample(), s, nil, 2, 6, none, api.ErrRange}, {sample(), s, nil, 4, 1, none, api.ErrRange},
	} {
		got, e := limit.Back(x.t, x.s, x.l, x.id, x.n)
		compare(t, i, x.s, got, x.want, e, x.e)
	}
}

func TestP26_4(t *testing.T) {
	s := stock(20, 2, 4, 6, 5, 3, 3, 0, 2)
	for i, x := range []struct {
		t       api.Tree
		s       api.Stock
		l       configs
		id      int
		want    api.Stock
		shrinks []api.Shrink
		left    int
		e       api.Errno
	}{
		{sample(), s, nil, 2, s, nil, 0, api.OK}, {sample(), s, configs{maximum(2, 13)}, 2, s, nil, 0, api.OK}, {sample(), s, configs{maximum(2, 5)}, 3, s, nil, 0, api.OK}, {sample(), s, configs{maximum(2, 5)}, 1, s, nil, 0, api.OK}, {sample(), s, configs{maximum(2, 5)}, 2, stock(20, 2, 0, 5, 6, 3, 0, 0, 2), []api.Shrink{shrink(2, 4, 1, 0), shrink(3, 3, 0, 0)}, 0, api.OK}, {sample(), s, configs{config(2, func(m *api.MemorySettings) { m.Max, m.SwapMax = 2, 9 })}, 2, stock(20, 2, 0, 4, 7, 3, 0, 0, 2), []api.Shrink{shrink(2, 4, 2, 0), shrink(3, 3, 0, 0)}, 2, api.OK}, {sample(), s, configs{maximum(1, 12)}, 1, stock(20, 2, 3, 6, 5, 3, 3, 0, 2), []api.Shrink{shrink(2, 1, 0, 0)}, 0, api.OK},
		{bad, s, nil, 9, api.Stock{}, nil, 0, api.ErrInvalid}, {sample(), stock(1, 2, 0, 0, 5), nil, 9, api.Stock{}, nil, 0, api.ErrInvalid}, {sample(), s, configs{maximum(5, 1)}, 9, api.Stock{}, nil, 0, api.ErrInvalid}, {sample(), s, nil, 5, api.Stock{}, nil, 0, api.ErrUnknown},
	} {
		got, shrinks, left, e := limit.Shed(x.t, x.s, x.l, x.id)
		if !eq(shrinks, x.shrinks) || left != x.left {
			t.Error(i, shrinks, left)
		}
		compare(t, i, x.s, api.Growth{Stock: got}, api.Growth{Stock: x.want}, e, x.e)
	}
}

// TestConsequences grows and brings back at random.
func TestConsequences(t *testing.T) {
	r := rand.New(rand.NewSource(28))
	tr := sample()
	refused := 0
	for round := 0; round < 150; round++ {
		s := stock(r.Intn(40))
		var l configs
		for id := 1; id <= 4; id++ {
			l = append(l, config(id, func(m *api.MemorySettings) {
				m.Max, m.High, m.Min, m.Low, m.SwapMax = 20+r.Intn(40), 10+r.Intn(50), r.Intn(2)*r.Intn(15), r.Intn(2)*r.Intn(20), r.Intn(30)
			}))
		}
		usage := func(s api.Stock, id int) int {
			n, e := counter.Total(tr, swap.Counter(s), id)
			if e != api.OK {
				t.Fatal(s, e)
			}
			return n
		}
		for i := 0; i < 40; i++ {
			id := 1 + r.Intn(4)
			g, e := limit.Grow(tr, s, l, id, r.Intn(8), r.Intn(8))
			if r.Intn(3) == 0 {
				g, e = limit.Back(tr, s, l, id, r.Intn(1+swap.Get(s, id).Swap))
			}
			if e != api.OK && e != api.ErrMemory || !swap.Valid(tr, g.Stock) {
				t.Fatal(g, e)
			}
			way := tree.Ancestors(tr, id)
			for _, n := range tr.Nodes {
				a, b, most := usage(s, n.ID), usage(g.Stock, n.ID), limit.Settings(l, n.ID).Max
				if b > most && (e == api.OK && slices.Contains(way, n.ID) || a <= most) || b > a && (e != api.OK || !slices.Contains(way, n.ID)) {
					t.Fatal(s, g, n, most)
				}
			}
			if e == api.ErrMemory {
				refused++
			}
			s = g.Stock
			if r.Intn(9) == 0 {
				l[id-1].Memory.Max = 10 + r.Intn(40)
				left := 0
				s, _, left, e = limit.Shed(tr, s, l, id)
				if e != api.OK || left != max(0, usage(s, id)-l[id-1].Memory.Max) {
					t.Fatal(s, left, e)
				}
			}
		}
	}
	if refused < 100 {
		t.Error(refused)
	}
}
