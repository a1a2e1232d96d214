package private_test

import (
	"fmt"
	"math"
	"math/rand"
	"testing"

	"groupcontrol/api"
	"groupcontrol/member"
	"groupcontrol/private"
	"groupcontrol/swap"
	"groupcontrol/tree"
)

func eq(a, b any) bool { return fmt.Sprint(a) == fmt.Sprint(b) }

// sample has /a (2), /a/b (4), /d (5); the processes 1 (with the thread 2), 3 and 6.
func sample() api.Hierarchy {
	return api.Hierarchy{Next: 7, Tree: api.Tree{Next: 6, Nodes: []api.Node{{ID: 1}, {ID: 2, Parent: 1, Name: "a"}, {ID: 4, Parent: 2, Name: "b"}, {ID: 5, Parent: 1, Name: "d"}}}, Tasks: []api.Task{
		{ID: 1, Process: 1, Group: 2}, {ID: 2, Process: 1, Group: 2}, {ID: 3, Process: 3, Group: 4}, {ID: 6, Process: 6, Group: 5},
	}}
}

var bad = func() api.Hierarchy { h := sample(); h.Next = 1; return h }()

type residents = []api.Resident

// list returns residents: processes with their groups, Anon and Swap.
func list(numbers ...int) residents {
	var l residents
	for i := 0; i < len(numbers); i += 4 {
		l = append(l, api.Resident{Process: numbers[i], Group: numbers[i+1], Anon: numbers[i+2], Swap: numbers[i+3]})
	}
	return l
}

func holdings(numbers ...int) []api.Holding {
	var l []api.Holding
	for i := 0; i < len(numbers); i += 4 {
		l = append(l, api.Holding{Group: numbers[i], File: numbers[i+1], Anon: numbers[i+2], Swap: numbers[i+3]})
	}
	return l
}

const most = api.MaxPages

// base: the process 1 has pages in the groups 2 and 4, the process 3 in 4, the process 6 in 2.
var base = list(1, 2, 5, 3, 1, 4, 2, 0, 3, 4, 4, 1, 6, 2, 0, 7)

func TestP38_1(t *testing.T) {
	for i, x := range []struct {
		h    api.Hierarchy
		l    residents
		want bool
	}{
		{sample(), nil, true}, {bad, nil, false}, {sample(), base, true}, {bad, base, false}, {sample(), list(1, 2, 1, 0, 1, 2, 1, 0), false}, {sample(), list(1, 4, 1, 0, 1, 2, 1, 0), false}, {sample(), list(3, 2, 1, 0, 1, 4, 1, 0), false}, {sample(), list(2, 2, 1, 0), false}, {sample(), list(4, 2, 1, 0), false}, {sample(), list(0, 2, 1, 0), false}, {sample(), list(1, 3, 1, 0), false}, {sample(), list(1, 0, 1, 0), false}, {sample(), list(1, 2, 0, 0), false}, {sample(), list(1, 2, -1, 2), false}, {sample(), list(1, 2, 2, -1), false}, {sample(), list(1, 2, 2, -2), false}, {sample(), list(1, 2, most, most), true}, {sample(), list(1, 2, most, most+1), false}, {sample(), list(1, 2, 2*most, 0), true}, {sample(), list(1, 2, 2*most, 0, 3, 2, 0, 1), false}, {sample(), list(1, 2, math.MaxInt, math.MaxInt, 3, 2, 2, 1), false}, {sample(), list(1, 2, 0, math.MaxInt), false}, {sample(), list(1, 2, 2*most+1, 0), false},
	} {
		if private.Valid(x.h, x.l) != x.want {
			t.Error(i)
		}
	}
	o := []api.Object{{ID: 1, Size: 9, Parts: []api.Charge{{Group: 2, Own: 3}, {Group: 5, Own: 1}}}, {ID: 4, Size: 9, Parts: []api.Charge{{Group: 2, Own: 2}}}}
	s := api.Stock{SwapSize: 20, Holdings: holdings(2, 5, 5, 10, 4, 0, 6, 1, 5, 1, 0, 0)}
	other := func(change func([]api.Holding)) api.Stock {
		l := holdings(2, 5, 5, 10, 4, 0, 6, 1, 5, 1, 0, 0)
		change(l)
		return api.Stock{SwapSize: 20, Holdings: l}
	}
	for i, x := range []struct {
		h    api.Hierarchy
		l    residents
		o    []api.Object
		s    api.Stock
		want bool
	}{
		{sample(), base, o, s, true}, {sample(), nil, nil, api.Stock{}, true}, {bad, base, o, s, false}, {sample(), base[:3], o, s, false}, {sample(), base, o[:1], s, false}, {sample(), base, nil, s, false}, {sample(), base, o, api.Stock{SwapSize: 20}, false}, {sample(), base, o, api.Stock{SwapSize: 10, Holdings: s.Holdings}, false}, {sample(), base, []api.Object{o[1], o[0]}, s, false}, {sample(), residents{base[1], base[0], base[2], base[3]}, o, s, false}, {sample(), base, o, other(func(l []api.Holding) { l[0].File++ }), false}, {sample(), base, o, other(func(l []api.Holding) { l[0].Anon++ }), false}, {sample(), base, o, other(func(l []api.Holding) { l[1].Swap++ }), false}, {sample(), base, o, other(func(l []api.Holding) { l[2].File-- }), false}, {sample(), base, o, other(func(l []api.Holding) { l[2].Anon++ }), false},
	} {
		if private.Fits(x.h, x.l, x.o, x.s) != x.want {
			t.Error(i)
		}
	}
	odd := list(9, 5, 1, -2, 9, 2, 3, 4, 8, 2, 5, 5)
	for p, want := range map[int][2]int{9: {4, 2}, 8: {5, 5}, 1: {0, 0}} {
		if a, b := private.Pages(odd, p); a != want[0] || b != want[1] {
			t.Error(p, a, b)
		}
	}
}

// compare compares residents with what is expected, and sees that they share no memory with the argument.
func compare(t *testing.T, i int, l, got, want residents, e, f api.Errno) {
	t.Helper()
	before := fmt.Sprint(l)
	if e != f || !eq(got, want) {
		t.Error(i, got, e)
	}
	for k := range got {
		got[k].Group = 99
	}
	if fmt.Sprint(l) != before {
		t.Error(i, "memory is shared")
	}
}

var wrong = list(1, 2, 0, 0)

func TestP38_2(t *testing.T) {
	full := list(1, 2, 2*most-9, 0)
	for i, x := range []struct {
		h                 api.Hierarchy
		l                 residents
		process, group, n int
		want              residents
		e                 api.Errno
	}{
		{sample(), base, 1, 4, 3, list(1, 2, 5, 3, 1, 4, 5, 0, 3, 4, 4, 1, 6, 2, 0, 7), api.OK}, {sample(), base, 3, 1, 3, list(1, 2, 5, 3, 1, 4, 2, 0, 3, 1, 3, 0, 3, 4, 4, 1, 6, 2, 0, 7), api.OK}, {sample(), base, 6, 5, 3, append(base[:4:4], list(6, 5, 3, 0)...), api.OK}, {sample(), base, 6, 5, 0, base, api.OK}, {sample(), nil, 6, 5, most, list(6, 5, most, 0), api.OK}, {sample(), full, 1, 2, 9, list(1, 2, 2*most, 0), api.OK},
		{bad, base, 9, 9, -1, nil, api.ErrInvalid}, {sample(), wrong, 9, 9, -1, nil, api.ErrInvalid}, {sample(), base, 2, 2, -1, nil, api.ErrUnknown}, {sample(), base, 9, 2, -1, nil, api.ErrUnknown}, {sample(), base, 1, 3, -1, nil, api.ErrUnknown}, {sample(), base, 1, 2, -1, nil, api.ErrRange}, {sample(), full, 1, 2, most + 1, nil, api.ErrRange}, {sample(), full, 1, 2, 10, nil, api.ErrLimit}, {sample(), full, 3, 2, 10, nil, api.ErrLimit},
	} {
		got, e := private.Add(x.h, x.l, x.process, x.group, x.n)
		compare(t, i, x.l, got, x.want, e, x.e)
	}
}

func TestP38_3(t *testing.T) {
	for i, x := range []struct {
		h          api.Hierarchy
		l          residents
		process, n int
		want       residents
		taken      []api.Holding
		e          api.Errno
	}{
		{sample(), base, 1, 4, list(1, 2, 4, 0, 1, 4, 2, 0, 3, 4, 4, 1, 6, 2, 0, 7), holdings(2, 0, 1, 3), api.OK}, {sample(), base, 1, 2, list(1, 2, 5, 1, 1, 4, 2, 0, 3, 4, 4, 1, 6, 2, 0, 7), holdings(2, 0, 0, 2), api.OK}, {sample(), base, 1, 8, base[1:], holdings(2, 0, 5, 3), api.OK}, {sample(), base, 1, 9, list(1, 4, 1, 0, 3, 4, 4, 1, 6, 2, 0, 7), holdings(2, 0, 5, 3, 4, 0, 1, 0), api.OK}, {sample(), base, 1, 10, base[2:], holdings(2, 0, 5, 3, 4, 0, 2, 0), api.OK}, {sample(), base, 3, 0, base, nil, api.OK}, {sample(), base, 3, 3, list(1, 2, 5, 3, 1, 4, 2, 0, 3, 4, 2, 0, 6, 2, 0, 7), holdings(4, 0, 2, 1), api.OK}, {sample(), nil, 3, 0, nil, nil, api.OK},
		{bad, base, 9, -1, nil, nil, api.ErrInvalid}, {sample(), wrong, 9, -1, nil, nil, api.ErrInvalid}, {sample(), base, 2, -1, nil, nil, api.ErrUnknown}, {sample(), base, 1, -1, nil, nil, api.ErrRange}, {sample(), base, 1, 11, nil, nil, api.ErrRange}, {sample(), nil, 1, 1, nil, nil, api.ErrRange},
	} {
		got, taken, e := private.Free(x.h, x.l, x.process, x.n)
		if !eq(taken, x.taken) {
			t.Error(i, taken)
		}
		compare(t, i, x.l, got, x.want, e, x.e)
	}
}

func TestP38_4(t *testing.T) {
	for i, x := range []struct {
		h        api.Hierarchy
		l        residents
		group, n int
		want     residents
		e        api.Errno
	}{
		{sample(), base, 2, 2, list(1, 2, 3, 5, 1, 4, 2, 0, 3, 4, 4, 1, 6, 2, 0, 7), api.OK}, {sample(), base, 4, 3, list(1, 2, 5, 3, 1, 4, 0, 2, 3, 4, 3, 2, 6, 2, 0, 7), api.OK}, {sample(), base, 4, 6, list(1, 2, 5, 3, 1, 4, 0, 2, 3, 4, 0, 5, 6, 2, 0, 7), api.OK}, {sample(), base, 5, 0, base, api.OK},
		{bad, base, 9, -1, nil, api.ErrInvalid}, {sample(), wrong, 9, -1, nil, api.ErrInvalid}, {sample(), base, 3, -1, nil, api.ErrUnknown}, {sample(), base, 4, -1, nil, api.ErrRange}, {sample(), base, 4, 7, nil, api.ErrRange}, {sample(), base, 5, 1, nil, api.ErrRange},
	} {
		got, e := private.Out(x.h, x.l, x.group, x.n)
		compare(t, i, x.l, got, x.want, e, x.e)
	}
	for i, x := range []struct {
		h                 api.Hierarchy
		l                 residents
		process, group, n int
		want              residents
		e                 api.Errno
	}{
		{sample(), base, 1, 2, 2, list(1, 2, 7, 1, 1, 4, 2, 0, 3, 4, 4, 1, 6, 2, 0, 7), api.OK}, {sample(), base, 6, 2, 7, list(1, 2, 5, 3, 1, 4, 2, 0, 3, 4, 4, 1, 6, 2, 7, 0), api.OK}, {sample(), base, 6, 5, 0, base, api.OK}, {sample(), base, 3, 4, 0, base, api.OK},
		{bad, base, 9, 9, -1, nil, api.ErrInvalid}, {sample(), wrong, 9, 9, -1, nil, api.ErrInvalid}, {sample(), base, 2, 2, -1, nil, api.ErrUnknown}, {sample(), base, 1, 3, -1, nil, api.ErrUnknown}, {sample(), base, 1, 2, -1, nil, api.ErrRange}, {sample(), base, 1, 2, 4, nil, api.ErrRange}, {sample(), base, 1, 4, 1, nil, api.ErrRange}, {sample(), base, 6, 5, 1, nil, api.ErrRange},
	} {
		got, e := private.In(x.h, x.l, x.process, x.group, x.n)
		compare(t, i, x.l, got, x.want, e, x.e)
	}
}

func TestP38_5(t *testing.T) {
	for p, x := range map[int]struct {
		want  residents
		taken []api.Holding
	}{1: {base[2:], holdings(2, 0, 5, 3, 4, 0, 2, 0)}, 3: {append(base[:2:2], base[3]), holdings(4, 0, 4, 1)}, 6: {base[:3], holdings(2, 0, 0, 7)}, 9: {base, nil}} {
		got, taken := private.Exit(base, p)
		if !eq(taken, x.taken) {
			t.Error(p, taken)
		}
		compare(t, p, base, got, x.want, 0, 0)
	}
	tr := sample().Tree
	three := list(1, 1, 9, 9, 1, 2, 5, 3, 1, 4, 2, 1, 3, 4, 4, 1)
	for i, x := range []struct {
		l     residents
		group int
		want  residents
	}{
		{base, 4, list(1, 2, 7, 3, 3, 2, 4, 1, 6, 2, 0, 7)}, {three, 4, list(1, 1, 9, 9, 1, 2, 7, 4, 3, 2, 4, 1)}, {three, 2, list(1, 1, 14, 12, 1, 4, 2, 1, 3, 4, 4, 1)}, {base, 5, base}, {base, 1, base}, {three, 1, three}, {base, 3, base}, {base, 0, base}, {base, 99, base}, {nil, 4, nil}, {list(1, 4, 0, 3), 4, list(1, 2, 0, 3)},
	} {
		compare(t, i, x.l, private.Remove(tr, x.l, x.group), x.want, 0, 0)
	}
}

// TestConsequences: if a stock is changed by the same numbers, residents go on to fit it.
func TestConsequences(t *testing.T) {
	r := rand.New(rand.NewSource(40))
	h := sample()
	var l residents
	s := api.Stock{SwapSize: 200}
	put := func(group, anon, swapped int) {
		x := swap.Get(s, group)
		x.Anon, x.Swap = x.Anon+anon, x.Swap+swapped
		var e api.Errno
		if s, e = swap.Put(h.Tree, s, x); e != api.OK {
			t.Fatal(x, e)
		}
	}
	for i := 0; i < 4000; i++ {
		process, group, n := []int{1, 3, 6}[r.Intn(3)], []int{1, 2, 4, 5}[r.Intn(4)], r.Intn(8)
		before := l
		var e api.Errno
		switch r.Intn(6) {
		case 0, 1:
			if l, e = private.Add(h, l, process, group, n); e == api.OK {
				put(group, n, 0)
			}
		case 2:
			var taken []api.Holding
			l, taken, e = private.Free(h, l, process, n)
			sum := 0
			for _, x := range taken {
				put(x.Group, -x.Anon, -x.Swap)
				sum += x.Anon + x.Swap
			}
			if e == api.OK && sum != n {
				t.Fatal(taken, n)
			}
		case 3:
			if l, e = private.Out(h, l, group, n); e == api.OK {
				put(group, -n, n)
			}
		case 4:
			if l, e = private.In(h, l, process, group, n); e == api.OK {
				put(group, n, -n)
			}
		case 5:
			if r.Intn(10) == 0 {
				var taken []api.Holding
				l, taken = private.Exit(l, process)
				for _, x := range taken {
					put(x.Group, -x.Anon, -x.Swap)
				}
			}
		}
		if e != api.OK {
			l = before
		}
		if !private.Valid(h, l) || !private.Fits(h, l, nil, s) {
			t.Fatal(l, s)
		}
		if r.Intn(50) == 0 {
			smaller, _ := tree.Remove(h.Tree, 4)
			k := member.New()
			k.Tree, k.Tasks, k.Next = smaller, []api.Task{{ID: 1, Process: 1, Group: 1}, {ID: 3, Process: 3, Group: 1}, {ID: 6, Process: 6, Group: 1}}, 7
			moved, _ := swap.Remove(h.Tree, s, 4)
			if !private.Fits(k, private.Remove(h.Tree, l, 4), nil, moved) {
				t.Fatal(l)
			}
		}
	}
}
