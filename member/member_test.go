package member_test

import (
	"fmt"
	"math/rand"
	"slices"
	"testing"

	"groupcontrol/api"
	"groupcontrol/member"
	"groupcontrol/tree"
)

func eq(a, b any) bool { return fmt.Sprint(a) == fmt.Sprint(b) }

// sample has the groups /a (2), /a/b (3), /c (4). The process 2 has threads in 3 and 1, the process 6 in 4, and the process 7 is in 3.
func sample() api.Hierarchy {
	return api.Hierarchy{Next: 12, Tree: api.Tree{Next: 9, Nodes: []api.Node{{ID: 1}, {ID: 2, Parent: 1, Name: "a"}, {ID: 3, Parent: 2, Name: "b"}, {ID: 4, Parent: 1, Name: "c"}}}, Tasks: []api.Task{
		{ID: 2, Process: 2, Group: 3, User: 5}, {ID: 3, Process: 2, Group: 3, User: 5}, {ID: 5, Process: 6, Group: 3}, {ID: 6, Process: 6, Group: 4}, {ID: 7, Process: 7, Group: 3, User: 5}, {ID: 9, Process: 2, Group: 1, User: 5},
	}}
}

func with(change func(*api.Hierarchy)) api.Hierarchy {
	h := sample()
	change(&h)
	return h
}

func crowd(n int) api.Hierarchy {
	h := member.New()
	for i := 1; i <= n; i++ {
		h.Tasks = append(h.Tasks, api.Task{ID: i, Process: i, Group: 1})
	}
	h.Next = n + 1
	return h
}

var bad = with(func(h *api.Hierarchy) { h.Next = 9 })

func TestP6_1(t *testing.T) {
	if h := member.New(); !eq(h, api.Hierarchy{Tree: tree.New(), Next: 1}) || !member.Check(h) {
		t.Error(h)
	}
	for i, x := range []struct {
		h    api.Hierarchy
		want bool
	}{
		{sample(), true}, {api.Hierarchy{}, false}, {crowd(128), true}, {crowd(129), false}, {bad, false},
		{with(func(h *api.Hierarchy) { h.Tree.Next = 3 }), false},
		{with(func(h *api.Hierarchy) { h.Tasks[1].ID = 2 }), false}, {with(func(h *api.Hierarchy) { h.Tasks[1].ID = 1 }), false}, {with(func(h *api.Hierarchy) { h.Tasks[1].ID = 4 }), true},
		{with(func(h *api.Hierarchy) { h.Tasks[4] = api.Task{ID: 6, Process: 6, Group: 3} }), false},
		{with(func(h *api.Hierarchy) { h.Tasks = []api.Task{{ID: 0, Process: 0, Group: 1}} }), false}, {with(func(h *api.Hierarchy) { h.Tasks = []api.Task{{ID: -1, Process: -1, Group: 1}} }), false}, {with(func(h *api.Hierarchy) { h.Tasks = []api.Task{{ID: 1, Process: 1, Group: 1}} }), true},
		{with(func(h *api.Hierarchy) { h.Tasks[1].Group = 9 }), false}, {with(func(h *api.Hierarchy) { h.Tasks[1].Group = 0 }), false}, {with(func(h *api.Hierarchy) { h.Tasks[1].Group = 1 }), true},
		{with(func(h *api.Hierarchy) { h.Tasks[4].User = -1 }), false}, {with(func(h *api.Hierarchy) { h.Tasks[4].User = api.MaxUser }), true}, {with(func(h *api.Hierarchy) { h.Tasks[4].User = api.MaxUser + 1 }), false},
		{with(func(h *api.Hierarchy) { h.Tasks[1].User = 6 }), false}, {with(func(h *api.Hierarchy) { h.Tasks[0].User = 6 }), false},
		{with(func(h *api.Hierarchy) { h.Tasks[1].Process = 3 }), true}, {with(func(h *api.Hierarchy) { h.Tasks[1].Process = 9 }), false}, {with(func(h *api.Hierarchy) { h.Tasks[1].Process = 4 }), false}, {with(func(h *api.Hierarchy) { h.Tasks[0].Process = 7 }), false}, {with(func(h *api.Hierarchy) { h.Tasks[4].Process = 2 }), true}, {with(func(h *api.Hierarchy) { h.Tasks[4].Process = 0 }), false},
		{with(func(h *api.Hierarchy) { h.Next = 10 }), true}, {with(func(h *api.Hierarchy) { h.Next = 0 }), false}, {with(func(h *api.Hierarchy) { h.Next = api.MaxID + 1 }), true}, {with(func(h *api.Hierarchy) { h.Next = api.MaxID + 2 }), false}, {with(func(h *api.Hierarchy) { h.Tasks = nil; h.Next = 1 }), true},
	} {
		if member.Check(x.h) != x.want {
			t.Error(i, x.h)
		}
	}
}

func TestP6_2(t *testing.T) {
	h := sample()
	for _, id := range []int{-1, 0, 1, 2, 3, 4, 5, 6, 7, 8, 9, 10, 12} {
		var want api.Task
		i := slices.IndexFunc(h.Tasks, func(k api.Task) bool { return k.ID == id })
		if i >= 0 {
			want = h.Tasks[i]
		}
		if k, ok := member.Find(h, id); k != want || ok != (i >= 0) {
			t.Error(id, k, ok)
		}
	}
	for _, x := range []struct {
		group            int
		tasks, processes []int
		count            int
	}{{1, []int{9}, []int{2}, 6}, {2, nil, nil, 4}, {3, []int{2, 3, 5, 7}, []int{2, 6, 7}, 4}, {4, []int{6}, []int{6}, 1}, {5, nil, nil, 0}, {0, nil, nil, 0}} {
		if l := member.Tasks(h, x.group); !eq(l, x.tasks) {
			t.Error("Tasks", x.group, l)
		}
		if l := member.Processes(h, x.group); !eq(l, x.processes) {
			t.Error("Processes", x.group, l)
		}
		if n := member.Count(h, x.group); n != x.count || member.Populated(h, x.group) != (x.count > 0) {
			t.Error("Count", x.group, n)
		}
		if member.Tasks(bad, x.group) != nil || member.Processes(bad, x.group) != nil || member.Count(bad, x.group) != 0 || member.Populated(bad, x.group) {
			t.Error("a hierarchy that Check refuses", x.group)
		}
	}
	empty := with(func(h *api.Hierarchy) { h.Tasks = nil })
	if member.Count(empty, 1) != 0 || member.Populated(empty, 1) || member.Populated(empty, 2) {
		t.Error("no tasks")
	}
	for p, want := range map[int][]int{2: {2, 3, 9}, 6: {5, 6}, 7: {7}, 3: nil, 0: nil, 99: nil} {
		if l := member.Threads(h, p); !eq(l, want) || member.Threads(bad, p) != nil {
			t.Error("Threads", p, l)
		}
	}
	if k, ok := member.Find(bad, 2); k != (api.Task{}) || ok {
		t.Error(k, ok)
	}
}

func TestP6_3(t *testing.T) {
	h := sample()
	over := with(func(h *api.Hierarchy) { h.Next = api.MaxID + 1 })
	last := with(func(h *api.Hierarchy) { h.Next = api.MaxID })
	for i, x := range []struct {
		h           api.Hierarchy
		group, user int
		id          int
		e           api.Errno
	}{
		{h, 2, 0, 12, api.OK}, {h, 1, api.MaxUser, 12, api.OK}, {member.New(), 1, 4, 1, api.OK}, {last, 4, 1, api.MaxID, api.OK}, {crowd(127), 1, 0, 128, api.OK},
		{bad, 2, 0, 0, api.ErrInvalid}, {h, 2, -1, 0, api.ErrInvalid}, {h, 9, api.MaxUser + 1, 0, api.ErrInvalid}, {h, 9, 0, 0, api.ErrUnknown}, {over, 0, 0, 0, api.ErrUnknown}, {crowd(128), 2, 0, 0, api.ErrUnknown}, {over, 1, 0, 0, api.ErrLimit}, {crowd(128), 1, 0, 0, api.ErrLimit},
	} {
		before := fmt.Sprint(x.h)
		n, id, e := member.Spawn(x.h, x.group, x.user)
		var want api.Hierarchy
		if x.e == api.OK {
			want = api.Hierarchy{Tree: x.h.Tree, Tasks: append(slices.Clone(x.h.Tasks), api.Task{ID: id, Process: id, Group: x.group, User: x.user}), Next: id + 1}
		}
		checkResult(t, i, x.h, before, n, want, e, x.e)
		if id != x.id {
			t.Error(i, id)
		}
	}
	for i, x := range []struct {
		h    api.Hierarchy
		task int
		want api.Task
		e    api.Errno
	}{
		{h, 2, api.Task{ID: 12, Process: 2, Group: 3, User: 5}, api.OK}, {h, 9, api.Task{ID: 12, Process: 2, Group: 1, User: 5}, api.OK}, {h, 5, api.Task{ID: 12, Process: 6, Group: 3}, api.OK}, {last, 7, api.Task{ID: api.MaxID, Process: 7, Group: 3, User: 5}, api.OK}, {crowd(127), 5, api.Task{ID: 128, Process: 5, Group: 1}, api.OK},
		{bad, 2, api.Task{}, api.ErrInvalid}, {bad, 1, api.Task{}, api.ErrInvalid}, {h, 1, api.Task{}, api.ErrUnknown}, {over, 1, api.Task{}, api.ErrUnknown}, {over, 2, api.Task{}, api.ErrLimit}, {crowd(128), 2, api.Task{}, api.ErrLimit}, {crowd(128), 200, api.Task{}, api.ErrUnknown},
	} {
		before := fmt.Sprint(x.h)
		n, id, e := member.Clone(x.h, x.task)
		var want api.Hierarchy
		if x.e == api.OK {
			want = api.Hierarchy{Tree: x.h.Tree, Tasks: append(slices.Clone(x.h.Tasks), x.want), Next: x.want.ID + 1}
		}
		checkResult(t, i, x.h, before, n, want, e, x.e)
		if id != x.want.ID {
			t.Error(i, id)
		}
	}
}

// checkResult compares a result, and changes it in order to see that it shares no memory with the argument.
func checkResult(t *testing.T, i int, h api.Hierarchy, before string, got, want api.Hierarchy, e, f api.Errno) {
	t.Helper()
	if e != f || !eq(got, want) || e == api.OK && !member.Check(got) {
		t.Error(i, got, e)
	}
	for k := range got.Tasks {
		got.Tasks[k].ID = 99
	}
	for k := range got.Tree.Nodes {
		got.Tree.Nodes[k].ID = 99
	}
	if fmt.Sprint(h) != before {
		t.Error(i, "the argument was changed")
	}
}

func TestP6_4(t *testing.T) {
	h := sample()
	drop := func(ids ...int) api.Hierarchy {
		return with(func(h *api.Hierarchy) {
			h.Tasks = slices.DeleteFunc(h.Tasks, func(k api.Task) bool { return slices.Contains(ids, k.ID) })
		})
	}
	for i, x := range []struct {
		h    api.Hierarchy
		task int
		want api.Hierarchy
		e    api.Errno
	}{{h, 2, drop(2, 3, 9), api.OK}, {h, 3, drop(3), api.OK}, {h, 5, drop(5), api.OK}, {h, 6, drop(5, 6), api.OK}, {h, 7, drop(7), api.OK}, {h, 1, api.Hierarchy{}, api.ErrUnknown}, {h, 12, api.Hierarchy{}, api.ErrUnknown}, {bad, 2, api.Hierarchy{}, api.ErrInvalid}, {bad, 1, api.Hierarchy{}, api.ErrInvalid}} {
		before := fmt.Sprint(x.h)
		n, e := member.Exit(x.h, x.task)
		checkResult(t, i, x.h, before, n, x.want, e, x.e)
	}
	for i, x := range []struct {
		h           api.Hierarchy
		task, group int
		e           api.Errno
	}{{h, 2, 4, api.OK}, {h, 9, 3, api.OK}, {h, 3, 3, api.OK}, {h, 1, 4, api.ErrUnknown}, {h, 2, 9, api.ErrUnknown}, {h, 2, 0, api.ErrUnknown}, {bad, 2, 4, api.ErrInvalid}, {bad, 1, 4, api.ErrInvalid}} {
		before := fmt.Sprint(x.h)
		n, e := member.Place(x.h, x.task, x.group)
		var want api.Hierarchy
		if x.e == api.OK {
			want = with(func(h *api.Hierarchy) {
				h.Tasks[slices.IndexFunc(h.Tasks, func(k api.Task) bool { return k.ID == x.task })].Group = x.group
			})
		}
		checkResult(t, i, x.h, before, n, want, e, x.e)
	}
	free := with(func(h *api.Hierarchy) { h.Tasks = h.Tasks[:2] })
	childless := with(func(h *api.Hierarchy) { h.Tree.Nodes[2].Parent = 1 })
	for i, x := range []struct {
		h     api.Hierarchy
		group int
		gone  int
		e     api.Errno
	}{{free, 4, 3, api.OK}, {childless, 2, 1, api.OK}, {h, 4, 0, api.ErrBusy}, {h, 3, 0, api.ErrBusy}, {h, 2, 0, api.ErrBusy}, {h, 1, 0, api.ErrState}, {h, 9, 0, api.ErrUnknown}, {bad, 9, 0, api.ErrInvalid}, {bad, 4, 0, api.ErrInvalid}} {
		before := fmt.Sprint(x.h)
		n, e := member.Remove(x.h, x.group)
		var want api.Hierarchy
		if x.e == api.OK {
			want = api.Hierarchy{Tree: api.Tree{Nodes: slices.Delete(slices.Clone(x.h.Tree.Nodes), x.gone, x.gone+1), Next: x.h.Tree.Next}, Tasks: x.h.Tasks, Next: x.h.Next}
		}
		checkResult(t, i, x.h, before, n, want, e, x.e)
	}
}

// TestConsequences does random steps.
func TestConsequences(t *testing.T) {
	r := rand.New(rand.NewSource(6))
	h := sample()
	given := map[int]bool{}
	for i := 0; i < 5000; i++ {
		group, task := 1+r.Intn(12), 1+r.Intn(h.Next)
		if len(h.Tasks) > 0 && r.Intn(4) > 0 {
			task = h.Tasks[r.Intn(len(h.Tasks))].ID
		}
		var n api.Hierarchy
		var e api.Errno
		id := 0
		switch r.Intn(6) {
		case 0:
			n, id, e = member.Spawn(h, group, r.Intn(3))
		case 1:
			n, id, e = member.Clone(h, task)
		case 2:
			n, e = member.Exit(h, task)
		case 3:
			n, e = member.Place(h, task, group)
		case 4:
			n, e = member.Remove(h, group)
		case 5:
			n = h
			n.Tree, _, e = tree.Add(h.Tree, group, string(rune('a'+r.Intn(3))))
		}
		if e != api.OK {
			continue
		}
		if id > 0 && given[id] || !member.Check(n) {
			t.Fatal(id, n)
		}
		given[id] = true
		h = n
		for _, g := range h.Tree.Nodes {
			sum := len(member.Tasks(h, g.ID))
			for _, c := range tree.Children(h.Tree, g.ID) {
				sum += member.Count(h, c)
			}
			if sum != member.Count(h, g.ID) {
				t.Fatal(g, sum)
			}
		}
	}
}
