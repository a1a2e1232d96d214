package swap_test

import (
	"fmt"
	"math"
	"math/rand"
	"testing"

	"groupcontrol/api"
	"groupcontrol/counter"
	"groupcontrol/protect"
	"groupcontrol/reclaim"
	"groupcontrol/swap"
	"groupcontrol/tree"
)

func eq(a, b any) bool { return fmt.Sprint(a) == fmt.Sprint(b) }

// sample has /a (2), /a/b (3), /a/c (4), /d (6), /a/b/e (7).
func sample() api.Tree {
	return api.Tree{Next: 8, Nodes: []api.Node{{ID: 1}, {ID: 2, Parent: 1, Name: "a"}, {ID: 3, Parent: 2, Name: "b"}, {ID: 4, Parent: 2, Name: "c"}, {ID: 6, Parent: 1, Name: "d"}, {ID: 7, Parent: 3, Name: "e"}}}
}

var (
	bad = func() api.Tree { t := sample(); t.Next = 1; return t }()
	two = api.Tree{Next: 4, Nodes: []api.Node{{ID: 1}, {ID: 2, Parent: 1, Name: "a"}, {ID: 3, Parent: 1, Name: "b"}}}
)

// stock returns a stock: its size, and groups with File, Anon and Swap.
func stock(size int, numbers ...int) api.Stock {
	s := api.Stock{SwapSize: size}
	for i := 0; i < len(numbers); i += 4 {
		s.Holdings = append(s.Holdings, api.Holding{Group: numbers[i], File: numbers[i+1], Anon: numbers[i+2], Swap: numbers[i+3]})
	}
	return s
}

func limits(numbers ...int) []api.Limit {
	var l []api.Limit
	for i := 0; i < len(numbers); i += 2 {
		l = append(l, api.Limit{Group: numbers[i], Most: numbers[i+1]})
	}
	return l
}

func protections(numbers ...int) []api.Protection {
	var l []api.Protection
	for i := 0; i < len(numbers); i += 3 {
		l = append(l, api.Protection{Group: numbers[i], Min: numbers[i+1], Low: numbers[i+2]})
	}
	return l
}

// shrinks returns what was taken: groups with File, Anon and Low.
func shrinks(numbers ...int) []api.Shrink {
	var l []api.Shrink
	for i := 0; i < len(numbers); i += 4 {
		l = append(l, api.Shrink{Group: numbers[i], File: numbers[i+1], Anon: numbers[i+2], Low: numbers[i+3]})
	}
	return l
}

const most = api.MaxPages

func TestP25_1(t *testing.T) {
	for i, x := range []struct {
		t    api.Tree
		s    api.Stock
		want bool
	}{
		{sample(), stock(0), true}, {bad, stock(0), false}, {sample(), stock(9, 2, 1, 2, 3, 7, 1, 0, 6), true}, {sample(), stock(8, 2, 1, 2, 3, 7, 1, 0, 6), false}, {bad, stock(9, 2, 1, 2, 3), false}, {sample(), stock(9, 3, 1, 2, 3, 2, 1, 2, 3), false}, {sample(), stock(9, 3, 1, 2, 3, 3, 1, 2, 3), false}, {sample(), stock(9, 5, 1, 2, 3), false}, {sample(), stock(9, 2, 0, 0, 0), false},
		{sample(), stock(9, 2, -1, 2, 3), false}, {sample(), stock(9, 2, 1, -1, 3), false}, {sample(), stock(9, 2, 1, 2, -1), false}, {sample(), stock(9, 2, 1, 0, 0), true}, {sample(), stock(9, 2, 0, 1, 0), true}, {sample(), stock(9, 2, 0, 0, 1), true},
		{sample(), stock(0, 2, most, 0, 0), true}, {sample(), stock(0, 2, most-1, 1, 0), true}, {sample(), stock(0, 2, most, 1, 0), false}, {sample(), stock(0, 2, most, 0, 0, 3, 0, 1, 0), false}, {sample(), stock(0, 2, 0, most+1, 0), false}, {sample(), stock(most, 2, 0, 0, most), true}, {sample(), stock(most + 1), false}, {sample(), stock(-1), false}, {sample(), stock(most, 2, math.MaxInt, math.MaxInt, 2), false}, {sample(), stock(5, 2, 1, 1, math.MaxInt, 3, 1, 1, math.MaxInt), false}, {sample(), stock(most, 2, most, 0, most), true},
	} {
		if swap.Valid(x.t, x.s) != x.want {
			t.Error(i)
		}
	}
	odd := stock(0, 9, 1, 2, 3, 2, 0, 0, 5, 9, 4, 0, 0, 3, 0, 4, 0)
	if c := swap.Counter(odd); !eq(c.Charges, []api.Charge{{Group: 9, Own: 3}, {Group: 9, Own: 4}, {Group: 3, Own: 4}}) {
		t.Error(c)
	}
	for id, want := range map[int]api.Holding{9: odd.Holdings[0], 2: odd.Holdings[1], 1: {Group: 1}} {
		if h := swap.Get(odd, id); h != want {
			t.Error(id, h)
		}
	}
}

// compare compares a stock with what is expected, and sees that it shares no memory with the argument.
func compare(t *testing.T, i int, s, got, want api.Stock, e, f api.Errno) {
	t.Helper()
	before := fmt.Sprint(s)
	if e != f || !eq(got, want) {
		t.Error(i, got, e)
	}
	for k := range got.Holdings {
		got.Holdings[k].Group = 99
	}
	if fmt.Sprint(s) != before {
		t.Error(i, "memory is shared")
	}
}

func TestP25_2(t *testing.T) {
	s := stock(9, 2, 1, 2, 3, 6, 1, 0, 4)
	none := api.Stock{}
	for i, x := range []struct {
		t    api.Tree
		s    api.Stock
		h    api.Holding
		want api.Stock
		e    api.Errno
	}{
		{sample(), s, api.Holding{Group: 2, File: 5}, stock(9, 2, 5, 0, 0, 6, 1, 0, 4), api.OK}, {sample(), s, api.Holding{Group: 2}, stock(9, 6, 1, 0, 4), api.OK}, {sample(), s, api.Holding{Group: 4}, s, api.OK}, {sample(), s, api.Holding{Group: 4, Anon: 1}, stock(9, 2, 1, 2, 3, 4, 0, 1, 0, 6, 1, 0, 4), api.OK}, {sample(), s, api.Holding{Group: 1, Swap: 2}, stock(9, 1, 0, 0, 2, 2, 1, 2, 3, 6, 1, 0, 4), api.OK}, {sample(), s, api.Holding{Group: 7, Anon: most - 4}, stock(9, 2, 1, 2, 3, 6, 1, 0, 4, 7, 0, most-4, 0), api.OK},
		{bad, s, api.Holding{Group: 9, File: -1}, none, api.ErrInvalid}, {sample(), stock(2, 2, 1, 2, 3), api.Holding{Group: 9}, none, api.ErrInvalid}, {sample(), s, api.Holding{Group: 5, File: -1}, none, api.ErrUnknown}, {sample(), s, api.Holding{}, none, api.ErrUnknown}, {sample(), s, api.Holding{Group: 2, File: -1}, none, api.ErrRange}, {sample(), s, api.Holding{Group: 2, Anon: -1}, none, api.ErrRange}, {sample(), s, api.Holding{Group: 2, Swap: -1}, none, api.ErrRange}, {sample(), s, api.Holding{Group: 2, File: most + 1}, none, api.ErrRange}, {sample(), s, api.Holding{Group: 2, Anon: most + 1}, none, api.ErrRange}, {sample(), s, api.Holding{Group: 2, Swap: most + 1}, none, api.ErrRange},
		{sample(), s, api.Holding{Group: 1, Swap: 3}, none, api.ErrLimit}, {sample(), s, api.Holding{Group: 7, File: most}, none, api.ErrLimit}, {sample(), s, api.Holding{Group: 2, File: most, Anon: most}, none, api.ErrLimit},
	} {
		got, e := swap.Put(x.t, x.s, x.h)
		compare(t, i, x.s, got, x.want, e, x.e)
	}
}

func TestP25_3(t *testing.T) {
	s := stock(20, 2, 1, 2, 3, 3, 0, 0, 4, 6, 1, 0, 5, 7, 0, 9, 1)
	for id, want := range map[int]int{1: 13, 2: 8, 3: 5, 4: 0, 6: 5, 7: 1} {
		if n, e := swap.Swapped(sample(), s, id); n != want || e != api.OK {
			t.Error(id, n, e)
		}
	}
	for i, x := range []struct {
		t    api.Tree
		s    api.Stock
		l    []api.Limit
		id   int
		want int
		e    api.Errno
	}{
		{sample(), s, nil, 7, 7, api.OK}, {sample(), s, limits(1, 15), 7, 2, api.OK}, {sample(), s, limits(1, 15, 2, 9), 7, 1, api.OK}, {sample(), s, limits(1, 15, 2, 9, 3, 6), 6, 2, api.OK}, {sample(), s, limits(2, 11, 3, 6), 7, 1, api.OK}, {sample(), s, limits(2, 11, 3, 6), 2, 3, api.OK}, {sample(), s, limits(2, 11, 3, 4), 7, 0, api.OK}, {sample(), s, limits(2, 7, 3, 9), 7, 0, api.OK}, {sample(), s, limits(2, 7), 1, 7, api.OK}, {sample(), s, limits(1, api.Max), 1, 7, api.OK}, {sample(), s, limits(1, 0), 4, 0, api.OK}, {sample(), stock(0), nil, 1, 0, api.OK},
		{bad, s, nil, 9, 0, api.ErrInvalid}, {sample(), stock(2, 2, 1, 2, 3), nil, 9, 0, api.ErrInvalid}, {sample(), s, limits(5, 1), 9, 0, api.ErrInvalid}, {sample(), s, nil, 5, 0, api.ErrUnknown}, {sample(), s, nil, 0, 0, api.ErrUnknown},
	} {
		if n, e := swap.Room(x.t, x.s, x.l, x.id); n != x.want || e != x.e {
			t.Error(i, n, e)
		}
		if n, e := swap.Swapped(x.t, x.s, x.id); x.e != api.OK && x.l == nil && (n != 0 || e != x.e) {
			t.Error(i, n, e)
		}
	}
}

func TestP25_4(t *testing.T) {
	s := stock(100, 2, 10, 10, 0, 3, 0, 20, 0)
	low := protections(3, 0, 15)
	for i, x := range []struct {
		t       api.Tree
		s       api.Stock
		p       []api.Protection
		l       []api.Limit
		root, n int
		want    api.Stock
		taken   []api.Shrink
		e       api.Errno
	}{
		{two, s, low, nil, 1, 12, stock(100, 2, 0, 8, 2, 3, 0, 20, 0), shrinks(2, 10, 2, 0), api.OK}, {two, stock(0, 2, 10, 10, 0, 3, 0, 20, 0), low, nil, 1, 12, stock(0, 2, 0, 10, 0, 3, 0, 20, 0), shrinks(2, 10, 0, 0), api.OK}, {two, s, low, nil, 1, 30, stock(100, 2, 0, 0, 10, 3, 0, 10, 10), shrinks(2, 10, 10, 0, 3, 0, 10, 5), api.OK},
		{two, s, low, nil, 1, 0, s, nil, api.OK}, {two, s, low, nil, 1, most, stock(100, 2, 0, 0, 10, 3, 0, 0, 20), shrinks(2, 10, 10, 0, 3, 0, 20, 15), api.OK}, {two, s, low, nil, 3, 7, stock(100, 2, 10, 10, 0, 3, 0, 13, 7), shrinks(3, 0, 7, 0), api.OK},
		{two, s, protections(2, 5, 0, 3, 20, 0), nil, 1, 100, stock(100, 2, 0, 5, 5, 3, 0, 20, 0), shrinks(2, 10, 5, 0), api.OK}, {two, s, protections(2, 12, 18, 3, 20, 20), nil, 1, 100, stock(100, 2, 2, 10, 0, 3, 0, 20, 0), shrinks(2, 8, 0, 6), api.OK}, {two, s, protections(2, 18, 12, 3, 20, 20), nil, 1, 100, stock(100, 2, 8, 10, 0, 3, 0, 20, 0), shrinks(2, 2, 0, 0), api.OK},
		{two, s, nil, limits(3, 4), 1, 100, stock(100, 2, 0, 0, 10, 3, 0, 16, 4), shrinks(2, 10, 10, 0, 3, 0, 4, 0), api.OK}, {two, s, nil, limits(1, 6), 1, 100, stock(100, 2, 0, 7, 3, 3, 0, 17, 3), shrinks(2, 10, 3, 0, 3, 0, 3, 0), api.OK}, {two, s, nil, limits(1, 0, 3, 5), 3, 100, s, nil, api.OK},
		{two, s, nil, nil, 1, 25, stock(100, 2, 0, 5, 5, 3, 0, 10, 10), shrinks(2, 10, 5, 0, 3, 0, 10, 0), api.OK},
		{bad, s, nil, nil, 9, -1, api.Stock{}, nil, api.ErrInvalid}, {two, stock(1, 2, 1, 2, 3), nil, nil, 9, -1, api.Stock{}, nil, api.ErrInvalid}, {two, s, protections(9, 1, 1), nil, 9, -1, api.Stock{}, nil, api.ErrInvalid}, {two, s, nil, limits(9, 1), 9, -1, api.Stock{}, nil, api.ErrInvalid}, {two, s, nil, nil, 4, -1, api.Stock{}, nil, api.ErrUnknown}, {two, s, nil, nil, 1, -1, api.Stock{}, nil, api.ErrRange}, {two, s, nil, nil, 1, most + 1, api.Stock{}, nil, api.ErrRange},
	} {
		got, taken, e := swap.Shrink(x.t, x.s, x.p, x.l, x.root, x.n)
		if !eq(taken, x.taken) {
			t.Error(i, taken)
		}
		compare(t, i, x.s, got, x.want, e, x.e)
	}
}

// shrink follows the promise word by word.
func shrink(s api.Stock, p []api.Protection, l []api.Limit, root, n int) (api.Stock, []api.Shrink) {
	tr := sample()
	effective, _ := protect.Effective(tr, swap.Counter(s), p, root)
	taken := map[int]*api.Shrink{}
	for step := range 4 {
		var parts []api.Part
		for _, x := range effective {
			usage, _ := counter.Total(tr, swap.Counter(s), x.Group)
			h := swap.Get(s, x.Group)
			part := api.Part{Group: x.Group, Usage: usage, Protect: x.Min, Own: h.File, Room: api.Max}
			if step < 2 {
				part.Protect = max(x.Min, x.Low)
			}
			if step%2 == 1 {
				part.Own = h.Anon
				part.Room, _ = swap.Room(tr, s, l, x.Group)
			}
			parts = append(parts, part)
		}
		takes, e := reclaim.Round(tr, parts, root, n)
		if e != api.OK {
			panic(e)
		}
		for _, x := range takes {
			h := swap.Get(s, x.Group)
			if taken[x.Group] == nil {
				taken[x.Group] = &api.Shrink{Group: x.Group}
			}
			k := taken[x.Group]
			if step%2 == 0 {
				h.File -= x.Pages
				k.File += x.Pages
			} else {
				h.Anon, h.Swap = h.Anon-x.Pages, h.Swap+x.Pages
				k.Anon += x.Pages
			}
			if step >= 2 {
				k.Low += x.Pages
			}
			n -= x.Pages
			s, _ = swap.Put(tr, s, h)
		}
	}
	var out []api.Shrink
	for _, node := range tr.Nodes {
		if taken[node.ID] != nil {
			out = append(out, *taken[node.ID])
		}
	}
	return s, out
}

// TestConsequences compares with shrink, and checks the laws of chapter 25.
func TestConsequences(t *testing.T) {
	r := rand.New(rand.NewSource(27))
	tr := sample()
	for i := 0; i < 2500; i++ {
		s := stock(r.Intn(200))
		var p []api.Protection
		var l []api.Limit
		for _, id := range []int{1, 2, 3, 4, 6, 7} {
			if next, e := swap.Put(tr, s, api.Holding{Group: id, File: r.Intn(30) * r.Intn(2), Anon: r.Intn(30) * r.Intn(2), Swap: r.Intn(20) * r.Intn(2)}); e == api.OK {
				s = next
			}
			if r.Intn(2) == 0 {
				p = append(p, api.Protection{Group: id, Min: r.Intn(40) * r.Intn(2), Low: r.Intn(60)})
			}
			if r.Intn(3) == 0 {
				l = append(l, api.Limit{Group: id, Most: r.Intn(40)})
			}
		}
		root, n := []int{1, 2, 3, 6}[r.Intn(4)], r.Intn(90)
		got, taken, e := swap.Shrink(tr, s, p, l, root, n)
		want, k := shrink(s, p, l, root, n)
		if e != api.OK || !eq(got, want) || !eq(taken, k) || !swap.Valid(tr, got) {
			t.Fatal(got, taken, want, k)
		}
		effective, _ := protect.Effective(tr, swap.Counter(s), p, root)
		sum, below := 0, 0
		for _, x := range taken {
			sum += x.File + x.Anon
			below += x.Low
		}
		for _, x := range effective {
			a, _ := counter.Total(tr, swap.Counter(s), x.Group)
			b, _ := counter.Total(tr, swap.Counter(got), x.Group)
			if b < min(a, x.Min) || below == 0 && b < min(a, x.Low) {
				t.Fatal(s, p, got)
			}
		}
		for _, node := range tr.Nodes {
			a, b := swap.Get(s, node.ID), swap.Get(got, node.ID)
			if a.Anon+a.Swap != b.Anon+b.Swap {
				t.Fatal(a, b)
			}
			if more, _, _ := swap.Shrink(tr, got, p, l, root, 0); !eq(more, got) {
				t.Fatal(more)
			}
		}
		for _, x := range l {
			a, _ := swap.Swapped(tr, s, x.Group)
			b, _ := swap.Swapped(tr, got, x.Group)
			if b > max(a, x.Most) {
				t.Fatal(x, a, b)
			}
		}
		if again, _ := shrink(got, p, l, root, n-sum); sum > n || sum < n && len(p) == 0 && !eq(again, got) {
			t.Fatal(s, n, sum)
		}
	}
}

func TestP25_5(t *testing.T) {
	s := stock(30, 1, 1, 2, 3, 2, 4, 5, 6, 3, 7, 8, 9)
	for i, x := range []struct {
		t    api.Tree
		s    api.Stock
		id   int
		want api.Stock
		e    api.Errno
	}{
		{two, s, 2, stock(30, 1, 5, 7, 9, 3, 7, 8, 9), api.OK}, {two, s, 3, stock(30, 1, 8, 10, 12, 2, 4, 5, 6), api.OK}, {two, stock(9, 3, 0, 1, 0), 3, stock(9, 1, 0, 1, 0), api.OK}, {two, stock(9, 1, 0, 1, 0), 3, stock(9, 1, 0, 1, 0), api.OK}, {two, stock(9), 3, stock(9), api.OK}, {two, stock(9, 3, most, 0, 0), 3, stock(9, 1, most, 0, 0), api.OK},
		{bad, s, 9, api.Stock{}, api.ErrInvalid}, {two, stock(1, 2, 1, 2, 3), 9, api.Stock{}, api.ErrInvalid}, {two, s, 4, api.Stock{}, api.ErrUnknown}, {two, s, 1, api.Stock{}, api.ErrRange}, {tree.New(), stock(9), 1, api.Stock{}, api.ErrRange}, {sample(), stock(9), 2, api.Stock{}, api.ErrBusy}, {sample(), stock(9), 3, api.Stock{}, api.ErrBusy},
	} {
		got, e := swap.Remove(x.t, x.s, x.id)
		compare(t, i, x.s, got, x.want, e, x.e)
	}
}
