package threaded_test

import (
	"fmt"
	"math/rand"
	"slices"
	"strings"
	"testing"

	"groupcontrol/api"
	"groupcontrol/control"
	"groupcontrol/member"
	"groupcontrol/threaded"
	"groupcontrol/tree"
)

func eq(a, b any) bool { return fmt.Sprint(a) == fmt.Sprint(b) }

const th = api.KindThreaded

// sample has /r (2) with the threaded /r/s (3) and /r/s/t (4), /r/s/x (5) and /r/s/x/y (6) of no use, /d (7) with /d/e (8), and /m (9) with memory control and /m/n (10).
// The process 1 has threads in 2, 3 and 4; the process 4 is in 8, the process 5 in 10.
func sample() api.Hierarchy {
	return api.Hierarchy{Next: 7, Tree: api.Tree{Next: 11, Nodes: []api.Node{
		{ID: 1, Control: 31}, {ID: 2, Parent: 1, Name: "r", Control: api.CPU | api.Pids}, {ID: 3, Parent: 2, Name: "s", Kind: th, Control: api.CPU}, {ID: 4, Parent: 3, Name: "t", Kind: th}, {ID: 5, Parent: 3, Name: "x"}, {ID: 6, Parent: 5, Name: "y"},
		{ID: 7, Parent: 1, Name: "d", Control: api.CPU}, {ID: 8, Parent: 7, Name: "e"}, {ID: 9, Parent: 1, Name: "m", Control: api.Memory}, {ID: 10, Parent: 9, Name: "n"},
	}}, Tasks: []api.Task{{ID: 1, Process: 1, Group: 2}, {ID: 2, Process: 1, Group: 3}, {ID: 3, Process: 1, Group: 4}, {ID: 4, Process: 4, Group: 8}, {ID: 5, Process: 5, Group: 10}}}
}

func with(change func(*api.Hierarchy)) api.Hierarchy {
	h := sample()
	change(&h)
	return h
}

var bad = with(func(h *api.Hierarchy) { h.Tasks[1].Group = 8 })

func TestP8_1(t *testing.T) {
	h := sample()
	for _, x := range []struct {
		id, kind, domain int
		ok               bool
	}{
		{1, api.TypeDomain, 1, true}, {2, api.TypeThreadedRoot, 2, true}, {3, api.TypeThreaded, 2, true}, {4, api.TypeThreaded, 2, true}, {5, api.TypeInvalid, 5, true}, {6, api.TypeInvalid, 6, true}, {7, api.TypeDomain, 7, true}, {8, api.TypeDomain, 8, true}, {9, api.TypeDomain, 9, true}, {10, api.TypeDomain, 10, true}, {11, api.TypeDomain, 0, false}, {0, api.TypeDomain, 0, false}, {-1, api.TypeDomain, 0, false},
	} {
		if k := threaded.Type(h.Tree, x.id); k != x.kind {
			t.Error("Type", x.id, k)
		}
		if d, ok := threaded.Domain(h.Tree, x.id); d != x.domain || ok != x.ok {
			t.Error("Domain", x.id, d, ok)
		}
	}
	h.Tree.Nodes[5].Kind = th // below a group of no use
	h.Tree.Nodes[1].Kind = th
	if threaded.Type(h.Tree, 5) != api.TypeInvalid || threaded.Type(h.Tree, 6) != api.TypeThreaded || threaded.Type(h.Tree, 1) != api.TypeThreadedRoot || threaded.Type(h.Tree, 2) != api.TypeThreaded {
		t.Error("order of the lines")
	}
	if d, _ := threaded.Domain(h.Tree, 6); d != 5 {
		t.Error(d)
	}
	if d, _ := threaded.Domain(h.Tree, 4); d != 1 {
		t.Error(d)
	}
	h.Tree.Next = 0
	for id := range 12 {
		if d, ok := threaded.Domain(h.Tree, id); threaded.Type(h.Tree, id) != api.TypeDomain || d != 0 || ok {
			t.Error("a tree that Check refuses", id)
		}
	}
}

func TestP8_2(t *testing.T) {
	for i, x := range []struct {
		h    api.Hierarchy
		want bool
	}{
		{sample(), true}, {member.New(), true}, {api.Hierarchy{}, false}, {with(func(h *api.Hierarchy) { h.Next = 1 }), false}, {with(func(h *api.Hierarchy) { h.Tree.Nodes[7].Control = api.Pids }), false},
		{bad, false}, {with(func(h *api.Hierarchy) { h.Tasks[0].Group = 1 }), false}, {with(func(h *api.Hierarchy) { h.Tasks[0].Group = 4 }), true}, {with(func(h *api.Hierarchy) { h.Tasks[2].Group = 1 }), false}, {with(func(h *api.Hierarchy) { h.Tasks[3].Group = 1 }), true},
		{with(func(h *api.Hierarchy) { h.Tasks[3].Group = 5 }), false}, {with(func(h *api.Hierarchy) { h.Tasks[3].Group = 6 }), false}, {with(func(h *api.Hierarchy) { h.Tree.Nodes[4].Control = api.CPU }), false}, {with(func(h *api.Hierarchy) { h.Tree.Nodes[2].Control = 0 }), true},
		{with(func(h *api.Hierarchy) { h.Tree.Nodes[5].Kind = th }), false}, {with(func(h *api.Hierarchy) { h.Tree.Nodes[4].Kind = th }), true}, {with(func(h *api.Hierarchy) { h.Tree.Nodes[4].Kind = th; h.Tree.Nodes[5].Kind = th }), true},
		{with(func(h *api.Hierarchy) { h.Tree.Nodes[9].Kind = th; h.Tasks = nil }), false}, {with(func(h *api.Hierarchy) { h.Tree.Nodes[8].Kind = th; h.Tree.Nodes[8].Control = 0; h.Tasks = nil }), true}, {with(func(h *api.Hierarchy) { h.Tree.Nodes[1].Control |= api.IO; h.Tasks = nil }), false}, {with(func(h *api.Hierarchy) { h.Tree.Nodes[6].Kind = th }), false}, {with(func(h *api.Hierarchy) { h.Tree.Nodes[6].Kind = th; h.Tasks[3].Group = 7 }), true},
	} {
		if threaded.Fits(x.h) != x.want {
			t.Error(i)
		}
	}
}

// compare compares a result with what is expected, and sees that it shares no memory with the argument.
func compare(t *testing.T, i int, h api.Hierarchy, got, want api.Hierarchy, e, f api.Errno) {
	t.Helper()
	before := fmt.Sprint(h)
	if e != f || !eq(got, want) || e == api.OK && !threaded.Fits(got) {
		t.Error(i, got, e)
	}
	for k := range got.Tasks {
		got.Tasks[k].ID = 99
	}
	for k := range got.Tree.Nodes {
		got.Tree.Nodes[k].ID = 99
	}
	if fmt.Sprint(h) != before {
		t.Error(i, "memory is shared")
	}
}

func copied(h api.Hierarchy) api.Hierarchy {
	return api.Hierarchy{Tree: api.Tree{Nodes: slices.Clone(h.Tree.Nodes), Next: h.Tree.Next}, Tasks: slices.Clone(h.Tasks), Next: h.Next}
}

func TestP8_3Convert(t *testing.T) {
	h := sample()
	crowded := with(func(h *api.Hierarchy) { h.Tasks[4].Group = 7 })
	for i, x := range []struct {
		h  api.Hierarchy
		id int
		e  api.Errno
	}{
		{h, 5, api.OK}, {with(func(h *api.Hierarchy) { h.Tasks = nil }), 8, api.OK}, {with(func(h *api.Hierarchy) { h.Tasks = nil }), 2, api.OK}, {with(func(h *api.Hierarchy) { h.Tasks = nil }), 7, api.OK},
		{bad, 5, api.ErrInvalid}, {bad, 99, api.ErrInvalid}, {h, 99, api.ErrUnknown}, {h, 0, api.ErrUnknown}, {h, 1, api.ErrState}, {member.New(), 1, api.ErrState}, {h, 3, api.ErrState}, {h, 4, api.ErrState},
		{h, 6, api.ErrKind}, {h, 10, api.ErrKind}, {with(func(h *api.Hierarchy) { h.Tree.Nodes[9].Control = api.Memory; h.Tasks = nil }), 10, api.ErrKind}, {with(func(h *api.Hierarchy) { h.Tree.Nodes[8].Control = api.IO; h.Tasks[0].Group = 4 }), 10, api.ErrKind},
		{h, 9, api.ErrState}, {with(func(h *api.Hierarchy) { h.Tree.Nodes[8].Control = api.IO; h.Tasks = nil }), 9, api.ErrState}, {with(func(h *api.Hierarchy) {
			h.Tree.Nodes[6].Control = api.IO
			h.Tree.Nodes = h.Tree.Nodes[:8]
			h.Tasks = nil
		}), 7, api.ErrState},
		{h, 8, api.ErrBusy}, {h, 2, api.ErrBusy}, {h, 7, api.ErrBusy}, {crowded, 7, api.ErrBusy}, {with(func(h *api.Hierarchy) { h.Tasks = nil; h.Tree.Nodes[7].Control = api.CPU }), 7, api.ErrBusy},
		{with(func(h *api.Hierarchy) {
			h.Tasks[3].Group = 1
			h.Tasks[4].Group = 1
			h.Tasks = append(h.Tasks, api.Task{ID: 6, Process: 4, Group: 1})
		}), 7, api.OK},
	} {
		n, e := threaded.Convert(x.h, x.id)
		var want api.Hierarchy
		if x.e == api.OK {
			want = copied(x.h)
			want.Tree.Nodes[slices.IndexFunc(want.Tree.Nodes, func(n api.Node) bool { return n.ID == x.id })].Kind = th
		}
		compare(t, i, x.h, n, want, e, x.e)
	}
}

func TestP8_3CreateEnable(t *testing.T) {
	h := sample()
	for i, x := range []struct {
		h      api.Hierarchy
		parent int
		s      string
		id     int
		e      api.Errno
	}{{h, 1, "z", 11, api.OK}, {h, 4, "z", 11, api.OK}, {h, 6, "z", 11, api.OK}, {h, 10, "z", 11, api.OK}, {bad, 1, "z", 0, api.ErrInvalid}, {bad, 99, "z", 0, api.ErrInvalid}, {h, 99, "-", 0, api.ErrInvalid}, {h, 99, "z", 0, api.ErrUnknown}, {h, 1, "r", 0, api.ErrExists}} {
		n, id, e := threaded.Create(x.h, x.parent, x.s)
		var want api.Hierarchy
		if x.e == api.OK {
			want = copied(x.h)
			want.Tree.Nodes = append(want.Tree.Nodes, api.Node{ID: 11, Parent: x.parent, Name: x.s})
			want.Tree.Next = 12
		}
		compare(t, i, x.h, n, want, e, x.e)
		if id != x.id {
			t.Error(i, id)
		}
	}
	free := with(func(h *api.Hierarchy) { h.Tasks = nil })
	for i, x := range []struct {
		h             api.Hierarchy
		id, add, drop int
		want          int
		e             api.Errno
	}{
		{h, 1, 0, api.IO, 27, api.OK}, {h, 2, api.Cpuset, 0, 25, api.OK}, {h, 3, api.Pids, api.CPU, 8, api.OK}, {h, 4, api.CPU, 0, 1, api.OK}, {h, 9, api.IO, api.Memory, 4, api.OK}, {h, 7, api.Memory, api.CPU, 2, api.OK},
		{bad, 1, 0, 0, 0, api.ErrInvalid}, {h, 99, 1, 1, 0, api.ErrInvalid}, {h, 99, 1, 0, 0, api.ErrUnknown}, {h, 3, api.Memory, 0, 0, api.ErrState}, {h, 5, api.Memory, 0, 0, api.ErrState}, {h, 2, api.Memory, 0, 0, api.ErrBusy},
		{h, 5, api.CPU, 0, 0, api.ErrKind}, {h, 5, 0, api.CPU, 0, api.OK}, {free, 2, api.Memory, 0, 0, api.ErrKind}, {free, 2, api.IO, api.Pids, 0, api.ErrKind},
	} {
		n, e := threaded.Enable(x.h, x.id, x.add, x.drop)
		var want api.Hierarchy
		if x.e == api.OK {
			want = copied(x.h)
			want.Tree.Nodes[slices.IndexFunc(want.Tree.Nodes, func(n api.Node) bool { return n.ID == x.id })].Control = x.want
		}
		compare(t, i, x.h, n, want, e, x.e)
	}
	whole := with(func(h *api.Hierarchy) { h.Tree.Nodes[1].Kind = th })
	if n, e := threaded.Enable(whole, 1, api.Memory, api.Cpuset); e != api.OK || !threaded.Fits(n) {
		t.Error("the root may be the parent of threaded groups and enable domain controllers", e)
	}
}

func TestP8_4(t *testing.T) {
	h := sample()
	for i, x := range []struct {
		h     api.Hierarchy
		group int
		e     api.Errno
	}{
		{h, 1, api.OK}, {h, 2, api.OK}, {h, 3, api.OK}, {h, 4, api.OK}, {h, 7, api.OK}, {h, 8, api.OK}, {h, 10, api.OK}, {bad, 1, api.ErrInvalid}, {bad, 99, api.ErrInvalid}, {h, 99, api.ErrUnknown}, {h, 0, api.ErrUnknown}, {h, 5, api.ErrKind}, {h, 6, api.ErrKind}, {h, 9, api.ErrBusy},
	} {
		if e := threaded.Admits(x.h, x.group); e != x.e {
			t.Error(i, e)
		}
	}
	for i, x := range []struct {
		h              api.Hierarchy
		process, group int
		e              api.Errno
	}{
		{h, 1, 2, api.OK}, {h, 1, 1, api.OK}, {h, 1, 8, api.OK}, {h, 4, 10, api.OK}, {h, 5, 2, api.OK}, {h, 4, 8, api.OK},
		{bad, 1, 2, api.ErrInvalid}, {bad, 9, 2, api.ErrInvalid}, {h, 2, 1, api.ErrUnknown}, {h, 6, 1, api.ErrUnknown}, {h, 0, 1, api.ErrUnknown}, {h, 1, 99, api.ErrUnknown}, {h, 2, 3, api.ErrUnknown}, {h, 1, 3, api.ErrKind}, {h, 4, 4, api.ErrKind}, {h, 1, 5, api.ErrKind}, {h, 1, 6, api.ErrKind}, {h, 1, 9, api.ErrBusy},
	} {
		n, e := threaded.Attach(x.h, x.process, x.group)
		var want api.Hierarchy
		if x.e == api.OK {
			want = copied(x.h)
			for k := range want.Tasks {
				if want.Tasks[k].Process == x.process {
					want.Tasks[k].Group = x.group
				}
			}
		}
		compare(t, i, x.h, n, want, e, x.e)
	}
	for i, x := range []struct {
		h           api.Hierarchy
		task, group int
		e           api.Errno
	}{
		{h, 1, 2, api.OK}, {h, 1, 4, api.OK}, {h, 2, 2, api.OK}, {h, 3, 3, api.OK}, {h, 4, 8, api.OK},
		{bad, 1, 2, api.ErrInvalid}, {bad, 9, 2, api.ErrInvalid}, {h, 9, 2, api.ErrUnknown}, {h, 9, 5, api.ErrUnknown}, {h, 1, 99, api.ErrUnknown}, {h, 1, 5, api.ErrKind}, {h, 3, 6, api.ErrKind}, {h, 1, 9, api.ErrBusy}, {h, 5, 9, api.ErrBusy}, {h, 1, 1, api.ErrState}, {h, 2, 8, api.ErrState}, {h, 4, 7, api.ErrState}, {h, 5, 3, api.ErrState},
	} {
		n, e := threaded.AttachThread(x.h, x.task, x.group)
		var want api.Hierarchy
		if x.e == api.OK {
			want = copied(x.h)
			want.Tasks[slices.IndexFunc(want.Tasks, func(k api.Task) bool { return k.ID == x.task })].Group = x.group
		}
		compare(t, i, x.h, n, want, e, x.e)
	}
}

// TestExample: Convert of /a makes /a/b a group of no use until it is converted, too.
func TestExample(t *testing.T) {
	h, a, _ := threaded.Create(member.New(), 1, "a")
	h, b, _ := threaded.Create(h, a, "b")
	h, e := threaded.Convert(h, a)
	if e != api.OK || threaded.Type(h.Tree, b) != api.TypeInvalid || threaded.Type(h.Tree, 1) != api.TypeThreadedRoot || threaded.Type(h.Tree, a) != api.TypeThreaded {
		t.Error(h, e)
	}
	if h, e = threaded.Convert(h, b); e != api.OK || threaded.Type(h.Tree, b) != api.TypeThreaded {
		t.Error(h, e)
	}
}

// TestConsequences does random steps, and compares each new hierarchy with the rules word by word.
func TestConsequences(t *testing.T) {
	r := rand.New(rand.NewSource(8))
	h := member.New()
	done := map[string]int{}
	for i := 0; i < 8000; i++ {
		id := h.Tree.Nodes[r.Intn(len(h.Tree.Nodes))].ID
		task := 1 + r.Intn(h.Next)
		if len(h.Tasks) > 0 {
			task = h.Tasks[r.Intn(len(h.Tasks))].ID
		}
		var n api.Hierarchy
		var e api.Errno
		what := []string{"convert", "attach", "thread", "create", "enable", "enable", "spawn", "clone", "exit", "remove"}[r.Intn(10)]
		switch what {
		case "convert":
			n, e = threaded.Convert(h, id)
		case "attach":
			n, e = threaded.Attach(h, task, id)
		case "thread":
			n, e = threaded.AttachThread(h, task, id)
		case "create":
			if n, _, e = threaded.Create(h, id, strings.Repeat("a", 1+r.Intn(3))); len(h.Tree.Nodes) > 9 {
				e = api.ErrLimit
			}
		case "enable":
			n, e = threaded.Enable(h, id, 1<<r.Intn(5)&r.Intn(32), 1<<r.Intn(5)&r.Intn(32))
		case "spawn":
			if e = threaded.Admits(h, id); e == api.OK && len(h.Tasks) < 10 {
				n, _, e = member.Spawn(h, id, 0)
			} else {
				e = api.ErrBusy
			}
		case "clone":
			n, _, e = member.Clone(h, task)
		case "exit":
			n, e = member.Exit(h, task)
		case "remove":
			n, e = member.Remove(h, id)
		}
		if e == api.OK {
			if !threaded.Fits(n) || !fits(n) {
				t.Fatal(what, h, n)
			}
			done[what]++
			h = n
		}
	}
	for _, what := range []string{"convert", "attach", "thread", "create", "enable", "spawn", "clone"} {
		if done[what] < 20 {
			t.Error(what, done[what])
		}
	}
}

// fits says what Fits promises, with the exported functions alone.
func fits(h api.Hierarchy) bool {
	if !control.Sound(h) {
		return false
	}
	for _, k := range h.Tasks {
		leader, _ := member.Find(h, k.Process)
		a, _ := threaded.Domain(h.Tree, k.Group)
		b, _ := threaded.Domain(h.Tree, leader.Group)
		if a != b || threaded.Type(h.Tree, k.Group) == api.TypeInvalid {
			return false
		}
	}
	for _, n := range h.Tree.Nodes {
		parent, _ := tree.Find(h.Tree, n.Parent)
		if threaded.Type(h.Tree, n.ID) == api.TypeInvalid && n.Control != 0 || n.Kind == th && (parent.ID != 1 && parent.Control&api.DomainControllers != 0 || threaded.Type(h.Tree, parent.ID) == api.TypeInvalid) {
			return false
		}
	}
	return true
}
