package fair_test

import (
	"cmp"
	"fmt"
	"math/rand"
	"slices"
	"testing"

	"groupcontrol/api"
	"groupcontrol/fair"
	"groupcontrol/member"
	"groupcontrol/tree"
	"groupcontrol/virtual"
)

func eq(a, b any) bool { return fmt.Sprint(a) == fmt.Sprint(b) }

type items = []api.Item

// sample has /a (2), /a/b (3), /c (4); the tasks 1 and 5 are in /a/b, 2 in /a, 3 in /c, 4 in /.
func sample() api.Hierarchy {
	return api.Hierarchy{Next: 6, Tree: api.Tree{Next: 5, Nodes: []api.Node{{ID: 1}, {ID: 2, Parent: 1, Name: "a"}, {ID: 3, Parent: 2, Name: "b"}, {ID: 4, Parent: 1, Name: "c"}}}, Tasks: []api.Task{
		{ID: 1, Process: 1, Group: 3}, {ID: 2, Process: 2, Group: 2}, {ID: 3, Process: 3, Group: 4}, {ID: 4, Process: 4, Group: 1}, {ID: 5, Process: 5, Group: 3},
	}}
}

var weights = []int{100, 200, 300, 400}

func branches() []api.Branch {
	return []api.Branch{
		{Group: 1, Queue: api.Queue{Clock: 10, Items: items{{ID: -4, Weight: 100, V: 30, Active: true}, {ID: 2, Weight: 200, V: 20, Active: true}, {ID: 4, Weight: 400, V: 10}}}},
		{Group: 2, Queue: api.Queue{Clock: 5, Items: items{{ID: -2, Weight: 100, V: 5, Active: true}, {ID: 3, Weight: 300, V: 6, Active: true}}}},
		{Group: 3, Queue: api.Queue{Clock: 7, Items: items{{ID: -5, Weight: 100, V: 8, Active: true}, {ID: -1, Weight: 100, V: 9, Active: true}}}},
		{Group: 4, Queue: api.Queue{Items: items{{ID: -3, Weight: 100}}}},
	}
}

func with(change func([]api.Branch)) []api.Branch {
	l := branches()
	change(l)
	return l
}

func TestP16_1(t *testing.T) {
	h := sample()
	want := []api.Branch{
		{Group: 1, Queue: api.Queue{Items: items{{ID: -4, Weight: 100}, {ID: 2, Weight: 200}, {ID: 4, Weight: 400}}}}, {Group: 2, Queue: api.Queue{Items: items{{ID: -2, Weight: 100}, {ID: 3, Weight: 300}}}},
		{Group: 3, Queue: api.Queue{Items: items{{ID: -5, Weight: 100}, {ID: -1, Weight: 100}}}}, {Group: 4, Queue: api.Queue{Items: items{{ID: -3, Weight: 100}}}},
	}
	if l := fair.New(h, weights); !eq(l, want) || !fair.Check(h, l) {
		t.Error(l)
	}
	for i, w := range [][]int{nil, weights[:3], append(slices.Clone(weights), 5), {100, 0, 1, 1}, {100, 1, 1, 10001}, {100, 1, -1, 1}} {
		if fair.New(h, w) != nil || fair.Sync(h, branches(), w, nil) != nil {
			t.Error(i)
		}
	}
	if l := fair.New(h, []int{1, 10000, 1, 10000}); !fair.Check(h, l) || fair.Weight(l, 2) != 10000 || fair.Weight(l, 3) != 1 {
		t.Error(l)
	}
	bad := sample()
	bad.Next = 1
	if fair.New(bad, weights) != nil || fair.Sync(bad, branches(), weights, nil) != nil {
		t.Error("a hierarchy that Check refuses")
	}
	for i, x := range []struct {
		h    api.Hierarchy
		l    []api.Branch
		want bool
	}{
		{h, branches(), true}, {bad, branches(), false}, {h, branches()[:3], false}, {h, nil, false}, {h, append(branches(), api.Branch{Group: 5}), false},
		{h, with(func(l []api.Branch) { l[3].Group = 3 }), false}, {h, with(func(l []api.Branch) { l[2], l[3] = l[3], l[2] }), false}, {h, with(func(l []api.Branch) { l[3].Queue.Clock = -1 }), false}, {h, with(func(l []api.Branch) { l[3].Queue.Items = nil }), false},
		{h, with(func(l []api.Branch) { l[3].Queue.Items[0].ID = -4 }), false}, {h, with(func(l []api.Branch) { l[3].Queue.Items = append(l[3].Queue.Items, api.Item{ID: 5, Weight: 3}) }), false}, {h, with(func(l []api.Branch) { l[3].Queue.Items[0].Weight = 101 }), false}, {h, with(func(l []api.Branch) { l[0].Queue.Items[0].Weight = 99 }), false}, {h, with(func(l []api.Branch) { l[0].Queue.Items[1].Weight = 99 }), true}, {h, with(func(l []api.Branch) { l[0].Queue.Items[1].V = 9 }), false}, {h, with(func(l []api.Branch) { l[1].Queue.Items[1].ID = 4 }), false},
	} {
		if fair.Check(x.h, x.l) != x.want {
			t.Error(i)
		}
	}
	odd := []api.Branch{{Queue: api.Queue{Clock: -1, Items: items{{ID: 9, Weight: 77}, {ID: 1, Weight: 4}, {ID: 0, Weight: 5}}}}, {Queue: api.Queue{Items: items{{ID: 9, Weight: 78}, {ID: 8, Weight: -3}}}}}
	for group, want := range map[int]int{9: 77, 8: -3, 1: 0, 7: 0, 0: 0} {
		if w := fair.Weight(odd, group); w != want {
			t.Error(group, w)
		}
	}
}

// sync follows the promise word by word.
func sync(h api.Hierarchy, l []api.Branch, weights, runnable []int) []api.Branch {
	var out []api.Branch
	for _, n := range h.Tree.Nodes {
		var q api.Queue
		for _, b := range l {
			if b.Group == n.ID && virtual.Check(b.Queue) {
				q = b.Queue
				break
			}
		}
		var ids []int
		for _, id := range member.Tasks(h, n.ID) {
			ids = append(ids, -id)
		}
		ids = append(ids, tree.Children(h.Tree, n.ID)...)
		slices.Sort(ids)
		weight := func(id int) int {
			if id < 0 {
				return 100
			}
			return weights[slices.IndexFunc(h.Tree.Nodes, func(n api.Node) bool { return n.ID == id })]
		}
		wanted := func(id int) bool {
			if id < 0 {
				return slices.Contains(runnable, -id)
			}
			for _, g := range tree.Subtree(h.Tree, id) {
				for _, k := range member.Tasks(h, g) {
					if slices.Contains(runnable, k) {
						return true
					}
				}
			}
			return false
		}
		must := func(next api.Queue, e api.Errno) {
			if e != api.OK {
				panic(e)
			}
			q = next
		}
		for _, x := range q.Items {
			if !slices.Contains(ids, x.ID) {
				must(virtual.Drop(q, x.ID))
			}
		}
		for _, id := range ids {
			if _, ok := virtual.Find(q, id); !ok {
				must(virtual.Add(q, id, weight(id)))
			}
		}
		for _, id := range ids {
			if x, _ := virtual.Find(q, id); x.Weight != weight(id) {
				must(virtual.Reweight(q, id, weight(id)))
			}
		}
		for _, id := range ids {
			if x, _ := virtual.Find(q, id); x.Active && !wanted(id) {
				must(virtual.Sleep(q, id))
			}
		}
		sleeping := slices.Clone(q.Items)
		slices.SortStableFunc(sleeping, func(a, b api.Item) int { return cmp.Compare(a.V, b.V) })
		for _, x := range sleeping {
			if !x.Active && wanted(x.ID) {
				must(virtual.Wake(q, x.ID))
			}
		}
		out = append(out, api.Branch{Group: n.ID, Queue: q})
	}
	return out
}

func TestP16_2(t *testing.T) {
	h := sample()
	l := fair.Sync(h, branches(), weights, []int{1, 3, 77})
	want := []api.Branch{
		{Group: 1, Queue: api.Queue{Clock: 10, Items: items{{ID: -4, Weight: 100, V: 30}, {ID: 2, Weight: 200, V: 20, Active: true}, {ID: 4, Weight: 400, V: 20, Active: true}}}}, {Group: 2, Queue: api.Queue{Clock: 6, Items: items{{ID: -2, Weight: 100, V: 5}, {ID: 3, Weight: 300, V: 6, Active: true}}}},
		{Group: 3, Queue: api.Queue{Clock: 9, Items: items{{ID: -5, Weight: 100, V: 8}, {ID: -1, Weight: 100, V: 9, Active: true}}}}, {Group: 4, Queue: api.Queue{Items: items{{ID: -3, Weight: 100, Active: true}}}},
	}
	want[0].Queue.Clock, want[0].Queue.Items[2].V = 20, 20
	if !eq(l, want) {
		t.Error(l)
	}
	before := fmt.Sprint(branches())
	old := branches()
	l = fair.Sync(h, old, weights, []int{1, 2, 4, 5})
	for i := range l {
		for k := range l[i].Queue.Items {
			l[i].Queue.Items[k].ID = 99
		}
	}
	if fmt.Sprint(old) != before {
		t.Error("memory is shared")
	}
	// The first queue that is valid counts.
	odd := append([]api.Branch{{Group: 4, Queue: api.Queue{Clock: -1}}, {Group: 4, Queue: api.Queue{Clock: 50}}, {Group: 9}}, branches()...)
	if l = fair.Sync(h, odd, weights, nil); l[3].Queue.Clock != 50 || !fair.Check(h, l) {
		t.Error(l)
	}
	// Those that sleep are woken by what they have paid.
	asleep := []api.Branch{{Group: 3, Queue: api.Queue{Clock: 7, Items: items{{ID: -5, Weight: 100, V: 800}, {ID: -1, Weight: 100, V: 9}}}}}
	if l = fair.Sync(h, asleep, weights, []int{1, 5}); !eq(l[2].Queue, api.Queue{Clock: 9, Items: items{{ID: -5, Weight: 100, V: 800, Active: true}, {ID: -1, Weight: 100, V: 9, Active: true}}}) {
		t.Error(l[2])
	}
	r := rand.New(rand.NewSource(16))
	l = nil
	h = member.New()
	for i := 0; i < 3000; i++ {
		h = mutate(r, h)
		var w, runnable []int
		for range h.Tree.Nodes {
			w = append(w, 1+r.Intn(10)*r.Intn(1000))
		}
		for _, k := range h.Tasks {
			if r.Intn(2) == 0 {
				runnable = append(runnable, k.ID)
			}
		}
		r.Shuffle(len(runnable), func(a, b int) { runnable[a], runnable[b] = runnable[b], runnable[a] })
		if r.Intn(5) == 0 && len(l) > 0 {
			l[r.Intn(len(l))].Queue.Clock += r.Intn(3) - 1
		}
		want := sync(h, l, w, runnable)
		l = fair.Sync(h, l, w, runnable)
		if !eq(l, want) || !fair.Check(h, l) {
			t.Fatal(l, want)
		}
		l, _ = fair.Run(h, l, r.Intn(6))
	}
}

// mutate makes a random change of a small hierarchy.
func mutate(r *rand.Rand, h api.Hierarchy) api.Hierarchy {
	group := h.Tree.Nodes[r.Intn(len(h.Tree.Nodes))].ID
	n, e := h, api.OK
	switch k := r.Intn(9); {
	case k == 0 && len(h.Tree.Nodes) < 7:
		n.Tree, _, e = tree.Add(h.Tree, group, string(rune('a'+r.Intn(3))))
	case k == 1:
		n, e = member.Remove(h, group)
	case k < 5 && len(h.Tasks) < 9:
		n, _, e = member.Spawn(h, group, 0)
	case k == 5 && len(h.Tasks) > 0:
		n, e = member.Exit(h, h.Tasks[r.Intn(len(h.Tasks))].ID)
	case k > 5 && len(h.Tasks) > 0:
		n, e = member.Place(h, h.Tasks[r.Intn(len(h.Tasks))].ID, group)
	}
	if e != api.OK {
		return h
	}
	return n
}

func TestP16_3(t *testing.T) {
	h := sample()
	for i, x := range []struct {
		l        []api.Branch
		eligible []int
		task     int
		ok       bool
	}{
		{branches(), []int{1, 2, 3, 4, 5}, 2, true}, {branches(), []int{1, 3, 4, 5}, 5, true}, {branches(), []int{1, 4}, 1, true}, {branches(), []int{4, 3}, 4, true}, {branches(), []int{3}, 0, false}, {branches(), nil, 0, false}, {branches(), []int{77, -1}, 0, false},
		{with(func(l []api.Branch) { l[0].Queue.Items[1].V = 31 }), []int{1, 2, 3, 4, 5}, 4, true}, {with(func(l []api.Branch) { l[0].Queue.Items[1].V = 30 }), []int{1, 2, 3, 4, 5}, 4, true},
		{with(func(l []api.Branch) { l[1].Queue.Items[1].Active = false }), []int{1, 4, 5}, 4, true}, {with(func(l []api.Branch) { l[0].Queue.Items[1].Active = false }), []int{1, 2, 5}, 0, false}, {with(func(l []api.Branch) { l[2].Queue.Items[0].Active = false }), []int{5, 4}, 4, true}, {with(func(l []api.Branch) { l[2].Queue.Items[0].Active = false }), []int{5}, 0, false},
		{with(func(l []api.Branch) { l[0].Queue.Clock = -1 }), []int{1, 2, 3, 4, 5}, 0, false}, {branches()[:3], []int{1, 2, 3, 4, 5}, 0, false},
	} {
		if task, ok := fair.Choose(h, x.l, x.eligible); task != x.task || ok != x.ok {
			t.Error(i, task, ok)
		}
	}
}

func TestP16_4(t *testing.T) {
	h := sample()
	asleep := with(func(l []api.Branch) { l[1].Queue.Items[1].Active = false })
	full := with(func(l []api.Branch) { l[0].Queue = api.Queue{Clock: api.MaxV, Items: l[0].Queue.Items} })
	for i := range full[0].Queue.Items {
		full[0].Queue.Items[i].V = api.MaxV
	}
	for i, x := range []struct {
		l    []api.Branch
		task int
		e    api.Errno
	}{
		{branches(), 1, api.OK}, {branches(), 2, api.OK}, {branches(), 4, api.OK}, {branches(), 5, api.OK}, {branches(), 3, api.ErrState}, {branches(), 6, api.ErrUnknown}, {branches(), -1, api.ErrUnknown}, {branches()[:3], 1, api.ErrInvalid}, {branches()[:3], 6, api.ErrInvalid}, {asleep, 1, api.ErrState}, {asleep, 2, api.OK}, {full, 1, api.ErrLimit}, {full, 4, api.ErrLimit}, {full, 3, api.ErrState},
	} {
		before := fmt.Sprint(x.l)
		l, e := fair.Serve(h, x.l, x.task)
		var want []api.Branch
		if x.e == api.OK {
			want = slices.Clone(x.l)
			k, _ := member.Find(h, x.task)
			id := -x.task
			for _, g := range tree.Ancestors(h.Tree, k.Group) {
				want[g-1].Queue, _ = virtual.Serve(want[g-1].Queue, id)
				id = g
			}
		}
		if e != x.e || !eq(l, want) || e == api.OK && !fair.Check(h, l) {
			t.Error(i, l, e)
		}
		for i := range l {
			for k := range l[i].Queue.Items {
				l[i].Queue.Items[k].ID = 99
			}
		}
		if fmt.Sprint(x.l) != before {
			t.Error(i, "memory is shared")
		}
	}
	for _, n := range []int{-5, 0, 1, 2, 30} {
		want := branches()
		var tasks []int
		for i := 0; i < n; i++ {
			task, _ := fair.Choose(h, want, []int{1, 2, 3, 4, 5})
			want, _ = fair.Serve(h, want, task)
			tasks = append(tasks, task)
		}
		l, served := fair.Run(h, branches(), n)
		if !eq(l, want) || !eq(served, tasks) {
			t.Error(n, l, served)
		}
	}
	old := branches()
	l, _ := fair.Run(h, old, 0)
	l[0].Queue.Items[0].ID = 99
	if !eq(old, branches()) {
		t.Error("memory is shared")
	}
	if l, served := fair.Run(h, branches()[:3], 5); l != nil || served != nil {
		t.Error(l, served)
	}
	idle := fair.New(h, weights)
	if l, served := fair.Run(h, idle, 5); !eq(l, idle) || served != nil {
		t.Error(l, served)
	}
	if l, served := fair.Run(h, full, 5); !eq(l, full) || served != nil {
		t.Error(l, served)
	}
	full[0].Queue.Items[0].Active = false
	if l, served := fair.Run(h, full, 5); !eq(l, full) || served != nil {
		t.Error("a refused unit has changed a queue", l, served)
	}
	one := api.Hierarchy{Tree: tree.New(), Tasks: []api.Task{{ID: 1, Process: 1, Group: 1}}, Next: 2}
	if _, served := fair.Run(one, fair.Sync(one, nil, []int{1}, []int{1}), api.MaxUnits+5); len(served) != api.MaxUnits {
		t.Error(len(served))
	}
}

func TestP16_5(t *testing.T) {
	before := []api.Branch{{Group: 5, Queue: api.Queue{Clock: -1, Items: items{{ID: 3, V: 10}, {ID: 3, V: 11}, {ID: -4, V: 12}}}}, {Group: 5, Queue: api.Queue{Items: items{{ID: 7, V: 3}}}}, {Group: 6, Queue: api.Queue{Items: items{{ID: 3, V: 1}}}}, {Group: 8, Queue: api.Queue{Items: items{{ID: 3, V: 50}}}}}
	after := []api.Branch{{Group: 6, Queue: api.Queue{Items: items{{ID: 3, V: 5}, {ID: 8, V: 5}}}}, {Group: 5, Queue: api.Queue{Items: items{{ID: -4, V: 2}, {ID: 7, V: 9}, {ID: 3, V: 100}, {ID: 3, V: 7}}}}}
	for i, x := range []struct{ group, id, want int }{{5, 3, 90}, {5, -4, -10}, {5, 7, 0}, {6, 3, 4}, {6, 8, 0}, {7, 3, 0}, {8, 3, 0}, {5, 9, 0}} {
		if n := fair.Gain(before, after, x.group, x.id); n != x.want {
			t.Error(i, n)
		}
	}
}

// TestConsequences: what two items of a queue pay that are active all the time differs by at most the sum of their costs.
func TestConsequences(t *testing.T) {
	r := rand.New(rand.NewSource(17))
	for round := 0; round < 150; round++ {
		h := sample()
		for range 12 {
			h = mutate(r, h)
		}
		var w, all []int
		for range h.Tree.Nodes {
			w = append(w, 1+r.Intn(10000))
		}
		for _, k := range h.Tasks {
			all = append(all, k.ID)
		}
		l, _ := fair.Run(h, fair.Sync(h, nil, w, all), r.Intn(50))
		after, _ := fair.Run(h, l, r.Intn(200))
		for _, b := range l {
			for _, x := range b.Queue.Items {
				for _, y := range b.Queue.Items {
					d := fair.Gain(l, after, b.Group, x.ID) - fair.Gain(l, after, b.Group, y.ID)
					if x.Active && y.Active && d > virtual.Cost(x.Weight)+virtual.Cost(y.Weight) {
						t.Fatal(b.Group, x, y, d)
					}
				}
			}
		}
	}
}

// TestExample: of 400 units, a group with the weight 100 beside one with 300 gets about 100.
func TestExample(t *testing.T) {
	h := api.Hierarchy{Next: 3, Tree: api.Tree{Next: 4, Nodes: []api.Node{{ID: 1}, {ID: 2, Parent: 1, Name: "a"}, {ID: 3, Parent: 1, Name: "b"}}}, Tasks: []api.Task{{ID: 1, Process: 1, Group: 2}, {ID: 2, Process: 2, Group: 3}}}
	_, served := fair.Run(h, fair.Sync(h, nil, []int{1, 100, 300}, []int{1, 2}), 400)
	n := 0
	for _, task := range served {
		if task == 1 {
			n++
		}
	}
	if n < 99 || n > 101 {
		t.Error(n)
	}
}
