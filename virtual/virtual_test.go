package virtual_test

import (
	"fmt"
	"math"
	"math/rand"
	"slices"
	"testing"

	"groupcontrol/api"
	"groupcontrol/virtual"
)

func eq(a, b any) bool { return fmt.Sprint(a) == fmt.Sprint(b) }

const c100, c300, c1 = 10737419, 3579140, 1 << 30

type items = []api.Item

// sample has the clock 1000 and two active items.
func sample() api.Queue {
	return api.Queue{Clock: 1000, Items: items{{ID: -7, Weight: 100, V: 500}, {ID: -2, Weight: 300, V: 1000, Active: true}, {ID: 4, Weight: 100, V: 2500, Active: true}, {ID: 9, Weight: 1, V: 1001}}}
}

func with(change func(*api.Queue)) api.Queue {
	q := sample()
	change(&q)
	return q
}

var bad = with(func(q *api.Queue) { q.Clock = -1 })

func full(n int) api.Queue {
	var q api.Queue
	for i := range n {
		q.Items = append(q.Items, api.Item{ID: i + 1, Weight: 1})
	}
	return q
}

func TestP15_1(t *testing.T) {
	for w, want := range map[int]int{1: c1, 2: 1 << 29, 3: 357913942, 100: c100, 300: c300, 1024: 1 << 20, 10000: 107375, 0: 0, 10001: 0, -1: 0, math.MinInt: 0, math.MaxInt: 0} {
		if got := virtual.Cost(w); got != want {
			t.Error(w, got)
		}
	}
	for i, x := range []struct {
		q    api.Queue
		want bool
	}{
		{sample(), true}, {api.Queue{}, true}, {bad, false}, {full(192), true}, {full(193), false},
		{api.Queue{Clock: api.MaxV}, true}, {api.Queue{Clock: api.MaxV + 1}, false}, {api.Queue{Clock: math.MaxInt}, false},
		{with(func(q *api.Queue) { q.Items[1].ID = -7 }), false}, {with(func(q *api.Queue) { q.Items[1].ID = -8 }), false}, {with(func(q *api.Queue) { q.Items[1].ID = 0 }), false}, {with(func(q *api.Queue) { q.Items[0].ID = math.MinInt; q.Items[3].ID = math.MaxInt }), true},
		{with(func(q *api.Queue) { q.Items[0].Weight = 0 }), false}, {with(func(q *api.Queue) { q.Items[0].Weight = 10000 }), true}, {with(func(q *api.Queue) { q.Items[0].Weight = 10001 }), false},
		{with(func(q *api.Queue) { q.Items[0].V = -1 }), false}, {with(func(q *api.Queue) { q.Items[0].V = 0 }), true}, {with(func(q *api.Queue) { q.Items[0].V = 1000 + c100 }), true}, {with(func(q *api.Queue) { q.Items[0].V = 1001 + c100 }), false},
		{with(func(q *api.Queue) { q.Items[1].V = 999 }), false}, {with(func(q *api.Queue) { q.Items[1].V = 1000 + c300 }), true}, {with(func(q *api.Queue) { q.Items[1].V = 1001 + c300 }), false}, {with(func(q *api.Queue) { q.Items[0].Active = true }), false},
		{api.Queue{Clock: api.MaxV - 1, Items: items{{ID: 1, Weight: 1, V: api.MaxV}}}, true}, {api.Queue{Clock: api.MaxV - 1, Items: items{{ID: 1, Weight: 1, V: api.MaxV + 1}}}, false}, {api.Queue{Clock: api.MaxV, Items: items{{ID: 1, Weight: 1, V: api.MaxV, Active: true}}}, true},
	} {
		if virtual.Check(x.q) != x.want {
			t.Error(i)
		}
	}
}

func TestP15_2(t *testing.T) {
	q := sample()
	for _, id := range []int{-8, -7, -2, 0, 4, 5, 9, 10} {
		var want api.Item
		i := slices.IndexFunc(q.Items, func(x api.Item) bool { return x.ID == id })
		if i >= 0 {
			want = q.Items[i]
		}
		if x, ok := virtual.Find(q, id); x != want || ok != (i >= 0) {
			t.Error(id, x, ok)
		}
		if x, ok := virtual.Find(bad, id); x != (api.Item{}) || ok {
			t.Error(id, x, ok)
		}
	}
	for i, x := range []struct {
		q    api.Queue
		want int
		ok   bool
	}{{q, 1000, true}, {with(func(q *api.Queue) { q.Items[1].V = 5000 }), 2500, true}, {with(func(q *api.Queue) { q.Items[1].Active = false }), 2500, true}, {with(func(q *api.Queue) { q.Items[1].Active, q.Items[2].Active = false, false }), 0, false}, {api.Queue{}, 0, false}, {bad, 0, false}, {api.Queue{Items: items{{ID: 3, Weight: 1, Active: true}}}, 0, true}} {
		if v, ok := virtual.Least(x.q); v != x.want || ok != x.ok {
			t.Error(i, v, ok)
		}
	}
}

// compare compares a queue with what is expected, and sees that it shares no memory with the argument.
func compare(t *testing.T, i int, q, got, want api.Queue, e, f api.Errno) {
	t.Helper()
	before := fmt.Sprint(q)
	if e != f || !eq(got, want) || e == api.OK && !virtual.Check(got) {
		t.Error(i, got, e)
	}
	for k := range got.Items {
		got.Items[k].ID = 99
	}
	if fmt.Sprint(q) != before {
		t.Error(i, "memory is shared")
	}
}

func TestP15_3(t *testing.T) {
	q := sample()
	late := with(func(q *api.Queue) { q.Items[1].V = 2000 })
	for i, x := range []struct {
		q          api.Queue
		id, weight int
		at, clock  int
		e          api.Errno
	}{
		{q, 5, 1, 3, 1000, api.OK}, {q, -9, 10000, 0, 1000, api.OK}, {q, 10, 7, 4, 1000, api.OK}, {q, -3, 7, 1, 1000, api.OK}, {late, 5, 100, 3, 2000, api.OK}, {api.Queue{}, 3, 5, 0, 0, api.OK}, {full(191), 300, 5, 191, 0, api.OK},
		{bad, 5, 1, 0, 0, api.ErrInvalid}, {bad, 0, 0, 0, 0, api.ErrInvalid}, {q, 5, 0, 0, 0, api.ErrRange}, {q, 4, 10001, 0, 0, api.ErrRange}, {q, 0, 5, 0, 0, api.ErrRange}, {q, 4, 5, 0, 0, api.ErrExists}, {full(192), 5, 5, 0, 0, api.ErrExists}, {full(192), 300, 5, 0, 0, api.ErrLimit},
	} {
		got, e := virtual.Add(x.q, x.id, x.weight)
		var want api.Queue
		if x.e == api.OK {
			want = api.Queue{Clock: x.clock, Items: slices.Insert(slices.Clone(x.q.Items), x.at, api.Item{ID: x.id, Weight: x.weight, V: x.q.Clock})}
		}
		compare(t, i, x.q, got, want, e, x.e)
	}
	for i, x := range []struct {
		q     api.Queue
		id    int
		at    int
		clock int
		e     api.Errno
	}{{q, -7, 0, 1000, api.OK}, {q, -2, 1, 2500, api.OK}, {q, 4, 2, 1000, api.OK}, {q, 9, 3, 1000, api.OK}, {late, 9, 3, 2000, api.OK}, {q, 5, 0, 0, api.ErrUnknown}, {q, 0, 0, 0, api.ErrUnknown}, {bad, 4, 0, 0, api.ErrInvalid}, {bad, 5, 0, 0, api.ErrInvalid}} {
		got, e := virtual.Drop(x.q, x.id)
		var want api.Queue
		if x.e == api.OK {
			want = api.Queue{Clock: x.clock, Items: slices.Delete(slices.Clone(x.q.Items), x.at, x.at+1)}
		}
		compare(t, i, x.q, got, want, e, x.e)
	}
}

func TestP15_4(t *testing.T) {
	q := sample()
	idle := with(func(q *api.Queue) { q.Items[1].Active, q.Items[2].Active = false, false })
	for i, x := range []struct {
		q            api.Queue
		id, v, clock int
		e            api.Errno
	}{
		{q, -7, 1000, 1000, api.OK}, {q, 9, 1001, 1000, api.OK}, {idle, 4, 2500, 2500, api.OK}, {idle, -7, 1000, 1000, api.OK}, {with(func(q *api.Queue) { q.Items[1].V = 2000 }), 9, 1001, 1001, api.OK}, {with(func(q *api.Queue) { q.Items[1].V = 2000 }), -7, 1000, 1000, api.OK},
		{q, -2, 0, 0, api.ErrState}, {q, 4, 0, 0, api.ErrState}, {q, 5, 0, 0, api.ErrUnknown}, {bad, -7, 0, 0, api.ErrInvalid}, {bad, 5, 0, 0, api.ErrInvalid},
	} {
		got, e := virtual.Wake(x.q, x.id)
		var want api.Queue
		if x.e == api.OK {
			want = api.Queue{Clock: x.clock, Items: slices.Clone(x.q.Items)}
			k := slices.IndexFunc(want.Items, func(y api.Item) bool { return y.ID == x.id })
			want.Items[k].V, want.Items[k].Active = x.v, true
		}
		compare(t, i, x.q, got, want, e, x.e)
	}
	for i, x := range []struct {
		q         api.Queue
		id, clock int
		e         api.Errno
	}{{q, -2, 2500, api.OK}, {q, 4, 1000, api.OK}, {with(func(q *api.Queue) { q.Items[1].Active = false }), 4, 1000, api.OK}, {q, 9, 0, api.ErrState}, {q, 5, 0, api.ErrUnknown}, {bad, 4, 0, api.ErrInvalid}, {bad, 5, 0, api.ErrInvalid}} {
		got, e := virtual.Sleep(x.q, x.id)
		var want api.Queue
		if x.e == api.OK {
			want = api.Queue{Clock: x.clock, Items: slices.Clone(x.q.Items)}
			want.Items[slices.IndexFunc(want.Items, func(y api.Item) bool { return y.ID == x.id })].Active = false
		}
		compare(t, i, x.q, got, want, e, x.e)
	}
}

func TestP15_5(t *testing.T) {
	q := sample()
	equal := with(func(q *api.Queue) { q.Items[2].V = 1000; q.Items[3].V = 1000; q.Items[3].Active = true })
	for i, x := range []struct {
		q        api.Queue
		eligible []int
		id       int
		ok       bool
	}{
		{q, []int{-7, -2, 4, 9}, -2, true}, {q, []int{4, -2}, -2, true}, {q, []int{9, 4}, 4, true}, {q, []int{-7, 9, 5, 0}, 0, false}, {q, nil, 0, false}, {bad, []int{-2, 4}, 0, false}, {equal, []int{9, 4, -2}, -2, true}, {equal, []int{9, 4}, 4, true}, {equal, []int{9}, 9, true}, {api.Queue{Items: items{{ID: 1, Weight: 5, Active: true}}}, []int{1}, 1, true}, {with(func(q *api.Queue) { q.Items[1].V = 2501 }), []int{4, -2}, 4, true},
	} {
		if id, ok := virtual.Pick(x.q, x.eligible); id != x.id || ok != x.ok {
			t.Error(i, id, ok)
		}
	}
	top := api.Queue{Clock: api.MaxV - c100, Items: items{{ID: 1, Weight: 100, V: api.MaxV - c100, Active: true}, {ID: 2, Weight: 99, V: api.MaxV - c100, Active: true}}}
	for i, x := range []struct {
		q    api.Queue
		id   int
		want api.Queue
		e    api.Errno
	}{
		{q, -2, with(func(q *api.Queue) { q.Items[1].V += c300; q.Clock = 2500 }), api.OK},
		{q, 4, with(func(q *api.Queue) { q.Items[2].V += c100; q.Items[1].V = 2500; q.Clock = 2500 }), api.OK},
		{with(func(q *api.Queue) { q.Items[1].Active = false }), 4, with(func(q *api.Queue) { q.Items[1].Active = false; q.Items[2].V += c100; q.Clock = 2500 + c100 }), api.OK},
		{top, 1, api.Queue{Clock: api.MaxV - c100, Items: items{{ID: 1, Weight: 100, V: api.MaxV, Active: true}, top.Items[1]}}, api.OK},
		{top, 2, api.Queue{}, api.ErrLimit}, {api.Queue{Clock: api.MaxV - c100, Items: items{{ID: 1, Weight: 100, V: api.MaxV - c100 + 1, Active: true}}}, 1, api.Queue{}, api.ErrLimit}, {q, 9, api.Queue{}, api.ErrState}, {q, 5, api.Queue{}, api.ErrUnknown}, {bad, 4, api.Queue{}, api.ErrInvalid}, {bad, 5, api.Queue{}, api.ErrInvalid},
		{api.Queue{Clock: api.MaxV, Items: items{{ID: 1, Weight: 100, V: api.MaxV}}}, 1, api.Queue{}, api.ErrState},
	} {
		got, e := virtual.Serve(x.q, x.id)
		compare(t, i, x.q, got, x.want, e, x.e)
	}
}

func TestP15_6(t *testing.T) {
	q := sample()
	top := api.Queue{Clock: api.MaxV - 100, Items: items{{ID: 1, Weight: 10000, V: api.MaxV}}}
	far := with(func(q *api.Queue) { q.Items[0].V = 1000 + c100; q.Items[2].V = 1000 + c100 })
	for i, x := range []struct {
		q                api.Queue
		id, weight       int
		v, clock, active int
		e                api.Errno
	}{
		{q, 4, 300, 1000 + 1500*c300/c100, 1000, 0, api.OK}, {q, 4, 1, 1000 + 1500*c1/c100, 1000, 0, api.OK}, {q, 4, 100, 2500, 1000, 0, api.OK}, {q, -7, 300, 500, 1000, 0, api.OK}, {q, -2, 1, 1000, 1000, 0, api.OK}, {q, 9, 10000, 1000, 1000, 0, api.OK}, {far, 4, 1, 1000 + c1, 1000, 0, api.OK}, {far, -7, 10000, 1000 + 107375, 1000, 0, api.OK}, {top, 1, 1, api.MaxV, api.MaxV - 100, 0, api.OK},
		{with(func(q *api.Queue) { q.Items[1].V = 3000 }), 4, 300, 1000 + 1500*c300/c100, 1000 + 1500*c300/c100, 0, api.OK},
		{bad, 4, 300, 0, 0, 0, api.ErrInvalid}, {bad, 5, 0, 0, 0, 0, api.ErrInvalid}, {q, 5, 0, 0, 0, 0, api.ErrRange}, {q, 4, 10001, 0, 0, 0, api.ErrRange}, {q, 4, -1, 0, 0, 0, api.ErrRange}, {q, 5, 1, 0, 0, 0, api.ErrUnknown},
	} {
		got, e := virtual.Reweight(x.q, x.id, x.weight)
		var want api.Queue
		if x.e == api.OK {
			want = api.Queue{Clock: x.clock, Items: slices.Clone(x.q.Items)}
			k := slices.IndexFunc(want.Items, func(y api.Item) bool { return y.ID == x.id })
			want.Items[k].V, want.Items[k].Weight = x.v, x.weight
		}
		compare(t, i, x.q, got, want, e, x.e)
	}
}

// TestConsequences: all functions keep queues, the clock does not fall, and two items that are always active pay the same, but for the sum of their costs.
func TestConsequences(t *testing.T) {
	r := rand.New(rand.NewSource(15))
	for round := 0; round < 200; round++ {
		var q api.Queue
		weights := []int{1 + r.Intn(10000), 1 + r.Intn(300), 1 + r.Intn(50), 100, 100}
		for id, w := range weights {
			q, _ = virtual.Add(q, id+1, w)
		}
		q, _ = virtual.Wake(q, 1)
		q, _ = virtual.Wake(q, 2)
		for i := r.Intn(30); i > 0; i-- {
			if id, ok := virtual.Pick(q, []int{1, 2}); ok {
				q, _ = virtual.Serve(q, id)
			}
		}
		var paid [7]int
		for i := 0; i < 300; i++ {
			before := q
			var e api.Errno
			id := 3 + r.Intn(3)
			switch r.Intn(6) {
			case 0:
				q, e = virtual.Wake(q, id)
			case 1:
				q, e = virtual.Sleep(q, id)
			case 2:
				q, e = virtual.Reweight(q, id, 1+r.Intn(10000))
			case 3:
				if q, e = virtual.Drop(q, id); e == api.OK {
					q, e = virtual.Add(q, id, 1+r.Intn(10000))
				}
			default:
				eligible := []int{1, 2}
				for k := 3; k < 6; k++ {
					if r.Intn(2) == 0 {
						eligible = append(eligible, k)
					}
				}
				next, ok := virtual.Pick(q, eligible)
				if !ok {
					t.Fatal(q)
				}
				q, e = virtual.Serve(q, next)
				for k := 1; k < 6; k++ {
					a, _ := virtual.Find(before, k)
					b, _ := virtual.Find(q, k)
					paid[k] += b.V - a.V
				}
			}
			if e != api.OK {
				q = before
			}
			if !virtual.Check(q) || q.Clock < before.Clock {
				t.Fatal(before, q)
			}
			if d := paid[1] - paid[2]; max(d, -d) > virtual.Cost(weights[0])+virtual.Cost(weights[1]) {
				t.Fatal(weights, paid)
			}
		}
	}
}

// TestExample: two items with the weights 100 and 300 get one and three of four units.
func TestExample(t *testing.T) {
	var q api.Queue
	q, _ = virtual.Add(q, 1, 100)
	q, _ = virtual.Add(q, 2, 300)
	q, _ = virtual.Wake(q, 1)
	q, _ = virtual.Wake(q, 2)
	n := 0
	for range 400 {
		id, _ := virtual.Pick(q, []int{1, 2})
		q, _ = virtual.Serve(q, id)
		if id == 1 {
			n++
		}
	}
	if n < 99 || n > 101 {
		t.Error(n)
	}
}
