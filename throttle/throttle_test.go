package throttle_test

import (
	"fmt"
	"math/rand"
	"slices"
	"testing"

	"groupcontrol/api"
	"groupcontrol/bandwidth"
	"groupcontrol/throttle"
	"groupcontrol/tree"
)

func eq(a, b any) bool { return fmt.Sprint(a) == fmt.Sprint(b) }

// sample has /a (2), /a/b (3), /a/c (5).
func sample() api.Tree {
	return api.Tree{Next: 6, Nodes: []api.Node{{ID: 1}, {ID: 2, Parent: 1, Name: "a"}, {ID: 3, Parent: 2, Name: "b"}, {ID: 5, Parent: 2, Name: "c"}}}
}

func pools() []api.Pool {
	return []api.Pool{
		{Group: 1, Quota: api.Max, Slice: 2, Local: []int{0, 0}, Periods: 3}, {Group: 2, Quota: 8, Burst: 2, Slice: 2, Left: 3, Local: []int{0, 2}, Periods: 1},
		{Group: 3, Quota: 9, Slice: 2, Left: 0, Local: []int{0, 1}, Periods: 1}, {Group: 5, Quota: 7, Slice: 2, Left: 6, Local: []int{1, 0}, Periods: 2},
	}
}

func with(change func([]api.Pool)) []api.Pool {
	l := pools()
	change(l)
	return l
}

var (
	badTree = func() api.Tree { t := sample(); t.Next = 2; return t }()
	bad     = with(func(l []api.Pool) { l[0].Left = 1 })
	quotas  = []int{api.Max, 8, 9, 7}
	bursts  = []int{0, 2, 0, 0}
)

func TestP18_1(t *testing.T) {
	for i, x := range []struct {
		t    api.Tree
		l    []api.Pool
		want bool
	}{
		{sample(), pools(), true}, {badTree, pools(), false}, {sample(), bad, false}, {sample(), pools()[:3], false}, {sample(), nil, false}, {sample(), append(pools(), pools()[3]), false}, {sample(), with(func(l []api.Pool) { l[3].Group = 4 }), false}, {sample(), with(func(l []api.Pool) { l[3], l[2] = l[2], l[3] }), false}, {sample(), with(func(l []api.Pool) { l[3].Local = []int{1} }), false}, {sample(), with(func(l []api.Pool) { l[0].Local = []int{0} }), false}, {sample(), with(func(l []api.Pool) { l[3].Slice = 5 }), true},
	} {
		if throttle.Check(x.t, x.l) != x.want {
			t.Error(i)
		}
	}
	for i, x := range []struct {
		t              api.Tree
		quotas, bursts []int
		slice, cpus    int
		e              api.Errno
	}{
		{sample(), quotas, bursts, 2, 2, api.OK}, {sample(), quotas, bursts, 1000000, 16, api.OK}, {tree.New(), []int{5}, []int{5}, 1, 1, api.OK}, {badTree, quotas, bursts, 2, 2, api.ErrInvalid}, {sample(), quotas[:3], bursts, 2, 2, api.ErrInvalid}, {sample(), quotas, bursts[:3], 0, 2, api.ErrInvalid}, {sample(), append(slices.Clone(quotas), 5), append(slices.Clone(bursts), 5), 2, 2, api.ErrInvalid},
		{sample(), quotas, bursts, 0, 2, api.ErrRange}, {sample(), quotas, bursts, 2, 17, api.ErrRange}, {sample(), quotas, bursts, 2, 0, api.ErrRange}, {sample(), quotas, []int{0, 9, 0, 0}, 2, 2, api.ErrRange}, {sample(), []int{api.Max, 8, 0, 7}, bursts, 2, 2, api.ErrRange},
	} {
		l, e := throttle.New(x.t, x.quotas, x.bursts, x.slice, x.cpus)
		var want []api.Pool
		if x.e == api.OK {
			for k, n := range x.t.Nodes {
				p, _ := bandwidth.New(n.ID, x.quotas[k], x.bursts[k], x.slice, x.cpus)
				want = append(want, p)
			}
		}
		if e != x.e || !eq(l, want) || e == api.OK && !throttle.Check(x.t, l) {
			t.Error(i, l, e)
		}
		if m, f := throttle.Sync(x.t, nil, x.quotas, x.bursts, x.slice, x.cpus); f != x.e || !eq(m, want) {
			t.Error(i, m, f)
		}
	}
	l := []api.Pool{{Group: 3, Left: 1, Local: []int{5}}, {Group: 2, Left: 2}, {Group: 3, Left: 3}}
	p, ok := throttle.Get(l, 3)
	if !eq(p, l[0]) || !ok {
		t.Error(p, ok)
	}
	if p.Local[0] = 9; l[0].Local[0] != 5 {
		t.Error("memory is shared")
	}
	if p, ok := throttle.Get(l, 4); !eq(p, api.Pool{}) || ok {
		t.Error(p, ok)
	}
}

func TestP18_2(t *testing.T) {
	empty := with(func(l []api.Pool) { l[1].Left = 0 })
	for i, x := range []struct {
		t          api.Tree
		l          []api.Pool
		group, cpu int
		room, id   int
	}{
		{sample(), pools(), 1, 0, api.MaxValue, 0}, {sample(), pools(), 2, 0, 3, 0}, {sample(), pools(), 2, 1, 5, 0}, {sample(), pools(), 3, 0, 0, 3}, {sample(), pools(), 3, 1, 1, 0}, {sample(), pools(), 5, 0, 3, 0}, {sample(), pools(), 5, 1, 5, 0}, {sample(), empty, 3, 0, 0, 3}, {sample(), empty, 5, 0, 0, 2}, {sample(), empty, 5, 1, 2, 0}, {sample(), empty, 2, 0, 0, 2},
		{sample(), pools(), 4, 0, 0, 0}, {sample(), pools(), 0, 0, 0, 0}, {sample(), bad, 2, 0, 0, 0}, {badTree, pools(), 3, 0, 0, 0}, {sample(), pools(), 5, 2, 0, 5}, {sample(), pools(), 1, -1, 0, 1},
	} {
		if n := throttle.Room(x.t, x.l, x.group, x.cpu); n != x.room {
			t.Error(i, n)
		}
		if id, ok := throttle.Blocked(x.t, x.l, x.group, x.cpu); id != x.id || ok != (x.id > 0) {
			t.Error(i, id, ok)
		}
	}
}

// compare compares pools with what is expected, and sees that they share no memory with the argument.
func compare(t *testing.T, i int, l, got, want []api.Pool, e, f api.Errno) {
	t.Helper()
	before := fmt.Sprint(l)
	if e != f || !eq(got, want) || got != nil && !throttle.Check(sample(), got) {
		t.Error(i, got, e)
	}
	for k := range got {
		got[k].Local[0] = 99
	}
	if fmt.Sprint(l) != before {
		t.Error(i, "memory is shared")
	}
}

func TestP18_3(t *testing.T) {
	empty := with(func(l []api.Pool) { l[1].Left = 0 })
	for i, x := range []struct {
		l          []api.Pool
		group, cpu int
		want       []api.Pool
		e          api.Errno
	}{
		{pools(), 1, 0, with(func(l []api.Pool) { l[0].Spent = 1 }), api.OK},
		{pools(), 2, 0, with(func(l []api.Pool) { l[0].Spent, l[1].Spent, l[1].Left, l[1].Local[0] = 1, 1, 1, 1 }), api.OK},
		{pools(), 3, 1, with(func(l []api.Pool) {
			l[0].Spent, l[1].Spent, l[2].Spent, l[1].Local[1], l[2].Local[1] = 1, 1, 1, 1, 0
		}), api.OK},
		{pools(), 3, 0, with(func(l []api.Pool) { l[2].Empty, l[2].Throttled = true, 1 }), api.ErrAgain}, {empty, 5, 0, with(func(l []api.Pool) { l[1].Left, l[1].Empty, l[1].Throttled = 0, true, 1 }), api.ErrAgain}, {empty, 3, 0, with(func(l []api.Pool) { l[1].Left, l[2].Empty, l[2].Throttled = 0, true, 1 }), api.ErrAgain},
		{bad, 3, 0, nil, api.ErrInvalid}, {bad, 9, 9, nil, api.ErrInvalid}, {pools(), 4, 9, nil, api.ErrUnknown}, {pools(), 0, 0, nil, api.ErrUnknown}, {pools(), 3, 2, nil, api.ErrRange}, {pools(), 3, -1, nil, api.ErrRange},
	} {
		l, e := throttle.Spend(sample(), x.l, x.group, x.cpu)
		compare(t, i, x.l, l, x.want, e, x.e)
	}
	if l, e := throttle.Spend(badTree, pools(), 2, 0); l != nil || e != api.ErrInvalid {
		t.Error(l, e)
	}
}

func TestP18_4(t *testing.T) {
	for i, x := range []struct {
		cpu  int
		want []api.Pool
	}{
		{1, with(func(l []api.Pool) {
			l[1].Left, l[1].Local[1], l[2].Left, l[2].Local[1] = 5, 0, 1, 0
		})}, {0, with(func(l []api.Pool) { l[3].Left, l[3].Local[0] = 7, 0 })}, {2, pools()}, {-1, pools()},
	} {
		l := pools()
		compare(t, i, l, throttle.Idle(sample(), l, x.cpu), x.want, 0, 0)
	}
	last := with(func(l []api.Pool) { l[3].Periods = api.MaxValue })
	for i, x := range []struct {
		l    []api.Pool
		due  []int
		want []api.Pool
	}{
		{pools(), nil, pools()}, {pools(), []int{9, 0}, pools()}, {pools(), []int{3, 1, 3}, with(func(l []api.Pool) { l[0].Periods, l[2].Periods, l[2].Left = 4, 2, 8 })}, {last, []int{5, 3}, with(func(l []api.Pool) { l[3].Periods, l[2].Periods, l[2].Left = api.MaxValue, 2, 8 })},
	} {
		compare(t, i, x.l, throttle.Refill(sample(), x.l, x.due), x.want, 0, 0)
	}
	if throttle.Idle(sample(), bad, 0) != nil || throttle.Idle(badTree, pools(), 0) != nil || throttle.Refill(sample(), bad, []int{2}) != nil || throttle.Refill(badTree, pools(), []int{2}) != nil {
		t.Error("pools that Check refuses")
	}
}

func TestP18_4Sync(t *testing.T) {
	other := api.Tree{Next: 8, Nodes: []api.Node{{ID: 1}, {ID: 3, Parent: 1, Name: "b"}, {ID: 5, Parent: 3, Name: "c"}, {ID: 7, Parent: 1, Name: "d"}}}
	fresh := func(id, quota, burst, slice, cpus int) api.Pool {
		p, _ := bandwidth.New(id, quota, burst, slice, cpus)
		return p
	}
	for i, x := range []struct {
		t              api.Tree
		l              []api.Pool
		quotas, bursts []int
		slice, cpus    int
		want           []api.Pool
		e              api.Errno
	}{
		{sample(), pools(), quotas, bursts, 2, 2, pools(), api.OK},
		{other, pools(), []int{api.Max, 9, 2, 6}, []int{0, 1, 0, 0}, 2, 2, []api.Pool{pools()[0], with(func(l []api.Pool) { l[2].Burst = 1 })[2], with(func(l []api.Pool) { l[3].Quota, l[3].Left = 2, 1 })[3], fresh(7, 6, 0, 2, 2)}, api.OK},
		{sample(), pools(), quotas, bursts, 3, 2, []api.Pool{fresh(1, api.Max, 0, 3, 2), fresh(2, 8, 2, 3, 2), fresh(3, 9, 0, 3, 2), fresh(5, 7, 0, 3, 2)}, api.OK},
		{sample(), pools(), quotas, bursts, 2, 1, []api.Pool{fresh(1, api.Max, 0, 2, 1), fresh(2, 8, 2, 2, 1), fresh(3, 9, 0, 2, 1), fresh(5, 7, 0, 2, 1)}, api.OK},
		{sample(), bad, quotas, bursts, 2, 2, with(func(l []api.Pool) { l[0].Periods = 1 }), api.OK},
		{sample(), slices.Concat([]api.Pool{{Group: 3}, fresh(3, 9, 0, 3, 2), fresh(3, 9, 0, 2, 1), fresh(3, 5, 0, 2, 2)}, pools()), quotas, bursts, 2, 2, with(func(l []api.Pool) { l[2].Left, l[2].Local[1] = 5, 0 }), api.OK},
		{badTree, pools(), quotas, bursts, 2, 2, nil, api.ErrInvalid}, {sample(), pools(), quotas[:3], bursts, 2, 2, nil, api.ErrInvalid}, {sample(), pools(), quotas, nil, 2, 2, nil, api.ErrInvalid}, {sample(), pools(), quotas, bursts, 0, 2, nil, api.ErrRange}, {sample(), pools(), quotas, bursts, 2, 0, nil, api.ErrRange}, {sample(), pools(), []int{api.Max, 8, 0, 7}, bursts, 2, 2, nil, api.ErrRange}, {sample(), pools(), quotas, []int{1, 2, 0, 0}, 2, 2, nil, api.ErrRange},
	} {
		before := fmt.Sprint(x.l)
		l, e := throttle.Sync(x.t, x.l, x.quotas, x.bursts, x.slice, x.cpus)
		if e != x.e || !eq(l, x.want) || e == api.OK && !throttle.Check(x.t, l) {
			t.Error(i, l, e)
		}
		for k := range l {
			l[k].Local[0] = 99
		}
		if fmt.Sprint(x.l) != before {
			t.Error(i, "memory is shared")
		}
	}
}

// TestConsequences: in n periods of an ancestor, the groups below it spend at most n times its quota, and its burst.
func TestConsequences(t *testing.T) {
	r := rand.New(rand.NewSource(20))
	for round := 0; round < 60; round++ {
		q, b := []int{api.Max, 1 + r.Intn(12), 1 + r.Intn(9), 1 + r.Intn(9)}, []int{0, 0, 0, 0}
		b[1] = r.Intn(q[1] + 1)
		l, _ := throttle.New(sample(), q, b, 1+r.Intn(4), 2)
		spent := 0
		for n := 1; n < 6; n++ {
			for i := 0; i < 40; i++ {
				group, cpu := []int{2, 3, 5}[r.Intn(3)], r.Intn(2)
				if r.Intn(4) == 0 {
					l = throttle.Idle(sample(), l, cpu)
				}
				id, blocked := throttle.Blocked(sample(), l, group, cpu)
				room := throttle.Room(sample(), l, group, cpu)
				next, e := throttle.Spend(sample(), l, group, cpu)
				if blocked != (e == api.ErrAgain) || blocked != (room == 0) || blocked && !slices.Contains(tree.Ancestors(sample(), group), id) {
					t.Fatal(l, group, cpu, e)
				}
				if l = next; e == api.OK {
					spent++
				}
			}
			if spent > n*q[1]+b[1] {
				t.Fatal(spent, n, q, b)
			}
			l = throttle.Refill(sample(), l, []int{2, []int{3, 5}[r.Intn(2)]})
		}
	}
}
