package counter_test

import (
	"fmt"
	"math"
	"math/rand"
	"slices"
	"testing"

	"groupcontrol/api"
	"groupcontrol/counter"
	"groupcontrol/tree"
)

func eq(a, b any) bool { return fmt.Sprint(a) == fmt.Sprint(b) }

// sample has /a (2), /a/b (3), /a/c (5), /d (6).
func sample() api.Tree {
	return api.Tree{Next: 7, Nodes: []api.Node{{ID: 1}, {ID: 2, Parent: 1, Name: "a"}, {ID: 3, Parent: 2, Name: "b"}, {ID: 5, Parent: 2, Name: "c"}, {ID: 6, Parent: 1, Name: "d"}}}
}

var bad = func() api.Tree { t := sample(); t.Next = 1; return t }()

// of returns a counter with the given groups and their charges.
func of(numbers ...int) api.Counter {
	var c api.Counter
	for i := 0; i < len(numbers); i += 2 {
		c.Charges = append(c.Charges, api.Charge{Group: numbers[i], Own: numbers[i+1]})
	}
	return c
}

func limits(numbers ...int) []api.Limit {
	var l []api.Limit
	for i := 0; i < len(numbers); i += 2 {
		l = append(l, api.Limit{Group: numbers[i], Most: numbers[i+1]})
	}
	return l
}

const most = api.MaxPages

func TestP22_1(t *testing.T) {
	for i, x := range []struct {
		t    api.Tree
		c    api.Counter
		want bool
	}{
		{sample(), of(), true}, {bad, of(), false}, {sample(), of(2, 5, 3, 7), true}, {bad, of(2, 5), false}, {sample(), of(3, 5, 2, 7), false}, {sample(), of(3, 5, 3, 7), false}, {sample(), of(4, 1), false}, {sample(), of(0, 1), false}, {sample(), of(2, 0), false}, {sample(), of(2, -1), false}, {sample(), of(2, most), true}, {sample(), of(2, most+1), false}, {sample(), of(2, most, 3, 1), false}, {sample(), of(2, most-1, 3, 1), true}, {sample(), of(2, math.MaxInt, 3, math.MaxInt), false},
	} {
		if counter.Valid(x.t, x.c) != x.want {
			t.Error(i)
		}
	}
	for i, x := range []struct {
		t    api.Tree
		l    []api.Limit
		want bool
	}{
		{sample(), nil, true}, {bad, nil, false}, {sample(), limits(1, 0, 5, api.Max), true}, {sample(), limits(1, -1), false}, {sample(), limits(1, api.Max+1), false}, {sample(), limits(5, 1, 2, 1), false}, {sample(), limits(2, 1, 2, 1), false}, {sample(), limits(4, 1), false}, {bad, limits(1, 1), false},
	} {
		if counter.ValidLimits(x.t, x.l) != x.want {
			t.Error(i)
		}
	}
	odd := of(9, 5, 2, -3, 9, 6)
	for id, want := range map[int]int{9: 5, 2: -3, 1: 0} {
		if n := counter.Own(odd, id); n != want {
			t.Error(id, n)
		}
	}
}

func TestP22_2(t *testing.T) {
	c := of(1, 1, 3, 10, 5, 100)
	for id, want := range map[int]int{1: 111, 2: 110, 3: 10, 5: 100, 6: 0} {
		if n, e := counter.Total(sample(), c, id); n != want || e != api.OK {
			t.Error(id, n, e)
		}
	}
	for _, id := range []int{0, 4, 7, -1} {
		if n, e := counter.Total(sample(), c, id); n != 0 || e != api.ErrUnknown {
			t.Error(id, n, e)
		}
	}
	if n, e := counter.Total(sample(), of(4, 1), 9); n != 0 || e != api.ErrInvalid {
		t.Error(n, e)
	}
	if l, e := counter.Totals(sample(), c); e != api.OK || !eq(l, of(1, 111, 2, 110, 3, 10, 5, 100).Charges) {
		t.Error(l, e)
	}
	if l, e := counter.Totals(sample(), of()); e != api.OK || len(l) != 0 {
		t.Error(l, e)
	}
	if l, e := counter.Totals(bad, c); e != api.ErrInvalid || l != nil {
		t.Error(l, e)
	}
}

func TestP22_3(t *testing.T) {
	for i, x := range []struct {
		t     api.Tree
		c     api.Counter
		id, n int
		want  api.Counter
		e     api.Errno
	}{
		{sample(), of(2, 5), 2, 3, of(2, 8), api.OK}, {sample(), of(2, 5), 3, 3, of(2, 5, 3, 3), api.OK}, {sample(), of(2, 5), 1, 3, of(1, 3, 2, 5), api.OK}, {sample(), of(2, 5, 6, 1), 5, 3, of(2, 5, 5, 3, 6, 1), api.OK}, {sample(), of(2, 5, 6, 1), 2, -5, of(6, 1), api.OK}, {sample(), of(2, 5, 6, 1), 2, -4, of(2, 1, 6, 1), api.OK}, {sample(), of(2, 5), 3, 0, of(2, 5), api.OK}, {sample(), of(), 1, most, of(1, most), api.OK}, {sample(), of(1, most), 1, -most, of(), api.OK}, {sample(), of(1, 5), 2, most - 5, of(1, 5, 2, most-5), api.OK},
		{bad, of(), 1, 0, of(), api.ErrInvalid}, {sample(), of(4, 1), 9, 1, of(), api.ErrInvalid}, {sample(), of(), 4, most + 1, of(), api.ErrUnknown}, {sample(), of(), 0, 1, of(), api.ErrUnknown}, {sample(), of(), 1, most + 1, of(), api.ErrRange}, {sample(), of(1, most), 1, -most - 1, of(), api.ErrRange}, {sample(), of(2, 5), 2, -6, of(), api.ErrRange}, {sample(), of(2, 5), 3, -1, of(), api.ErrRange}, {sample(), of(), 1, math.MinInt, of(), api.ErrRange}, {sample(), of(), 1, math.MaxInt, of(), api.ErrRange}, {sample(), of(1, 5), 2, most - 4, of(), api.ErrLimit}, {sample(), of(1, most), 1, 1, of(), api.ErrLimit},
	} {
		before := fmt.Sprint(x.c)
		c, e := counter.Add(x.t, x.c, x.id, x.n)
		if e != x.e || !eq(c, x.want) {
			t.Error(i, c, e)
		}
		for k := range c.Charges {
			c.Charges[k].Own = 99
		}
		if fmt.Sprint(x.c) != before {
			t.Error(i, "memory is shared")
		}
	}
}

func TestP22_4(t *testing.T) {
	full := limits(1, 5, 2, 3)
	for i, x := range []struct {
		t      api.Tree
		c      api.Counter
		l      []api.Limit
		id, n  int
		want   api.Counter
		refuse int
		e      api.Errno
	}{
		{sample(), of(2, 5, 3, 7), limits(1, 100, 2, 15), 3, 3, of(2, 5, 3, 10), 0, api.OK}, {sample(), of(2, 5, 3, 7), limits(1, 100, 2, 15), 3, 4, of(), 2, api.ErrAgain}, {sample(), of(2, 5, 3, 7), limits(1, 15, 2, 15), 3, 4, of(), 2, api.ErrAgain}, {sample(), of(2, 5, 3, 7), limits(1, 15, 2, 16), 3, 4, of(), 1, api.ErrAgain}, {sample(), of(2, 5, 3, 7), limits(1, 15, 2, 15, 3, 10), 3, 4, of(), 3, api.ErrAgain}, {sample(), of(2, 5, 3, 7), limits(2, 12, 3, 1), 6, 4, of(2, 5, 3, 7, 6, 4), 0, api.OK}, {sample(), of(2, 5, 3, 7), nil, 3, 4, of(2, 5, 3, 11), 0, api.OK},
		{sample(), of(2, 5, 3, 7), full, 3, 0, of(2, 5, 3, 7), 0, api.OK}, {sample(), of(2, 5, 3, 7), full, 3, 1, of(), 2, api.ErrAgain}, {sample(), of(2, 5), limits(2, api.Max), 2, 1, of(2, 6), 0, api.OK},
		{bad, of(), nil, 1, 0, of(), 0, api.ErrInvalid}, {sample(), of(4, 1), nil, 9, 1, of(), 0, api.ErrInvalid}, {sample(), of(), limits(4, 1), 9, 1, of(), 0, api.ErrInvalid}, {sample(), of(), nil, 4, -1, of(), 0, api.ErrUnknown}, {sample(), of(), nil, 4, most + 1, of(), 0, api.ErrUnknown}, {sample(), of(2, 5), nil, 2, -1, of(), 0, api.ErrRange}, {sample(), of(2, 5), nil, 2, most + 1, of(), 0, api.ErrRange}, {sample(), of(2, 5), limits(1, 0), 2, most - 4, of(), 0, api.ErrLimit}, {sample(), of(2, 5), nil, 2, most - 5, of(2, most), 0, api.OK},
	} {
		before := fmt.Sprint(x.c)
		c, g, e := counter.Charge(x.t, x.c, x.l, x.id, x.n)
		if e != x.e || !eq(c, x.want) || g != x.refuse {
			t.Error(i, c, g, e)
		}
		for k := range c.Charges {
			c.Charges[k].Own = 99
		}
		if fmt.Sprint(x.c) != before {
			t.Error(i, "memory is shared")
		}
	}
}

func TestP22_5(t *testing.T) {
	for i, x := range []struct {
		t    api.Tree
		c    api.Counter
		l    []api.Limit
		want []int
		e    api.Errno
	}{
		{sample(), of(2, 5, 3, 7), limits(1, 11, 2, 12, 3, 6, 6, 0), []int{1, 3}, api.OK}, {sample(), of(2, 5, 3, 7), nil, nil, api.OK}, {sample(), of(), limits(1, 0), nil, api.OK}, {sample(), of(4, 1), nil, nil, api.ErrInvalid}, {sample(), of(), limits(4, 1), nil, api.ErrInvalid}, {bad, of(), nil, nil, api.ErrInvalid},
	} {
		if l, e := counter.Over(x.t, x.c, x.l); e != x.e || !eq(l, x.want) {
			t.Error(i, l, e)
		}
	}
}

func TestP22_6(t *testing.T) {
	for i, x := range []struct {
		t    api.Tree
		c    api.Counter
		id   int
		want api.Counter
		e    api.Errno
	}{
		{sample(), of(2, 5, 3, 7), 3, of(2, 12), api.OK}, {sample(), of(3, 7), 3, of(2, 7), api.OK}, {sample(), of(2, 5), 3, of(2, 5), api.OK}, {sample(), of(1, 1, 2, 5, 5, 2, 6, 3), 6, of(1, 4, 2, 5, 5, 2), api.OK}, {sample(), of(6, 3), 6, of(1, 3), api.OK}, {sample(), of(), 5, of(), api.OK},
		{bad, of(), 3, of(), api.ErrInvalid}, {sample(), of(4, 1), 9, of(), api.ErrInvalid}, {sample(), of(), 4, of(), api.ErrUnknown}, {sample(), of(), 0, of(), api.ErrUnknown}, {sample(), of(), 1, of(), api.ErrRange}, {tree.New(), of(), 1, of(), api.ErrRange}, {sample(), of(), 2, of(), api.ErrBusy}, {api.Tree{Next: 4, Nodes: []api.Node{{ID: 1}, {ID: 2, Parent: 1, Name: "a"}, {ID: 3, Parent: 2, Name: "b"}}}, of(), 2, of(), api.ErrBusy},
	} {
		before := fmt.Sprint(x.c)
		c, e := counter.Remove(x.t, x.c, x.id)
		if e != x.e || !eq(c, x.want) {
			t.Error(i, c, e)
		}
		for k := range c.Charges {
			c.Charges[k].Own = 99
		}
		if fmt.Sprint(x.c) != before {
			t.Error(i, "memory is shared")
		}
	}
}

// TestConsequences checks the laws of chapter 22.
func TestConsequences(t *testing.T) {
	r := rand.New(rand.NewSource(24))
	c := of()
	l := limits(1, 60, 2, 30, 3, 20, 6, 9)
	for i := 0; i < 3000; i++ {
		id := []int{1, 2, 3, 5, 6}[r.Intn(5)]
		if r.Intn(3) == 0 {
			c, _ = counter.Add(sample(), c, id, -r.Intn(counter.Own(c, id)+1))
		}
		over, _ := counter.Over(sample(), c, l)
		if n, refused, e := counter.Charge(sample(), c, l, id, r.Intn(12)); e == api.OK {
			after, _ := counter.Over(sample(), n, l)
			for _, g := range after {
				if !slices.Contains(over, g) {
					t.Fatal(c, n, g)
				}
			}
			c = n
		} else if refused == 0 {
			t.Fatal(e)
		}
		if r.Intn(9) == 0 {
			c, _ = counter.Add(sample(), c, id, r.Intn(20))
		}
		for _, n := range sample().Nodes {
			total, _ := counter.Total(sample(), c, n.ID)
			sum := counter.Own(c, n.ID)
			for _, child := range tree.Children(sample(), n.ID) {
				below, _ := counter.Total(sample(), c, child)
				sum += below
			}
			if total != sum {
				t.Fatal(c, n, total)
			}
		}
		smaller, _ := tree.Remove(sample(), 5)
		moved, e := counter.Remove(sample(), c, 5)
		for _, n := range smaller.Nodes {
			a, _ := counter.Total(sample(), c, n.ID)
			b, _ := counter.Total(smaller, moved, n.ID)
			if a != b || e != api.OK {
				t.Fatal(c, moved)
			}
		}
	}
}
