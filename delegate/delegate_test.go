package delegate_test

import (
	"fmt"
	"math/rand"
	"slices"
	"testing"

	"groupcontrol/api"
	"groupcontrol/delegate"
	"groupcontrol/member"
	"groupcontrol/threaded"
	"groupcontrol/tree"
)

func eq(a, b any) bool { return fmt.Sprint(a) == fmt.Sprint(b) }

// sample has /a (2, of the user 7) with /a/b (3) and /a/c (4, of the user 8), below it /a/c/d (5), and /o (6, of the user 9), below it /o/p (7, of the user 7).
// The users 7, 8, 9 and 0 have processes in /a, /a/c/d, /o and /.
func sample() api.Hierarchy {
	return api.Hierarchy{Next: 10, Tree: api.Tree{Next: 8, Nodes: []api.Node{
		{ID: 1, Control: api.CPU | api.Memory}, {ID: 2, Parent: 1, Name: "a", Owner: 7, Control: api.CPU}, {ID: 3, Parent: 2, Name: "b"}, {ID: 4, Parent: 2, Name: "c", Owner: 8}, {ID: 5, Parent: 4, Name: "d"}, {ID: 6, Parent: 1, Name: "o", Owner: 9}, {ID: 7, Parent: 6, Name: "p", Owner: 7},
	}}, Tasks: []api.Task{{ID: 1, Process: 1, Group: 2, User: 7}, {ID: 2, Process: 1, Group: 2, User: 7}, {ID: 3, Process: 3, Group: 5, User: 8}, {ID: 4, Process: 4, Group: 6, User: 9}, {ID: 5, Process: 5, Group: 1}, {ID: 6, Process: 6, Group: 1, User: 7}, {ID: 7, Process: 7, Group: 7, User: 7}, {ID: 8, Process: 8, Group: 3}, {ID: 9, Process: 9, Group: 5, User: 7}}}
}

func with(change func(*api.Hierarchy)) api.Hierarchy {
	h := sample()
	change(&h)
	return h
}

var (
	bad   = with(func(h *api.Hierarchy) { h.Tree.Next = 2 })
	unfit = with(func(h *api.Hierarchy) { h.Tree.Nodes[2].Kind = api.KindThreaded; h.Tasks[1].Group = 1 })
)

func TestP9_1(t *testing.T) {
	h := sample()
	full := map[int][]int{0: {1, 2, 3, 4, 5, 6, 7}, 7: {3, 4, 5}, 8: {5}, 9: {7}, 5: nil, -1: nil, api.MaxUser: nil, api.MaxUser + 1: nil}
	enter := map[int][]int{0: {1, 2, 3, 4, 5, 6, 7}, 7: {2, 3, 4, 5, 7}, 8: {4, 5}, 9: {6, 7}, 5: nil, -1: nil, api.MaxUser: nil, api.MaxUser + 1: nil}
	for user, l := range full {
		for id := -1; id < 10; id++ {
			if delegate.Full(h.Tree, user, id) != slices.Contains(l, id) {
				t.Error("Full", user, id)
			}
			if delegate.Enter(h.Tree, user, id) != slices.Contains(enter[user], id) {
				t.Error("Enter", user, id)
			}
			if delegate.Full(bad.Tree, user, id) || delegate.Enter(bad.Tree, user, id) {
				t.Error("a tree that Check refuses", user, id)
			}
		}
		if r := delegate.Reach(h.Tree, user); !eq(r, enter[user]) {
			t.Error("Reach", user, r)
		}
		if delegate.Reach(bad.Tree, user) != nil {
			t.Error("a tree that Check refuses", user)
		}
	}
	h.Tree.Nodes[0].Owner = 5
	h.Tree.Nodes[5].Owner = api.MaxUser
	if r := delegate.Reach(h.Tree, 5); !eq(r, []int{1, 2, 3, 4, 5, 6, 7}) || delegate.Full(h.Tree, 5, 1) || !delegate.Full(h.Tree, 5, 2) || !delegate.Full(h.Tree, api.MaxUser, 7) {
		t.Error("owner of the root", r)
	}
}

// compare compares a result with what is expected, and sees that it shares no memory with the argument.
func compare(t *testing.T, i int, h api.Hierarchy, got, want api.Hierarchy, e, f api.Errno) {
	t.Helper()
	before := fmt.Sprint(h)
	if e != f || !eq(got, want) {
		t.Error(i, got, e)
	}
	for k := range got.Tasks {
		got.Tasks[k].ID = 99
	}
	for k := range got.Tree.Nodes {
		got.Tree.Nodes[k].ID = 99
	}
	if fmt.Sprint(h) != before {
		t.Error(i, "memory is shared")
	}
}

func copied(h api.Hierarchy) api.Hierarchy {
	return api.Hierarchy{Tree: api.Tree{Nodes: slices.Clone(h.Tree.Nodes), Next: h.Tree.Next}, Tasks: slices.Clone(h.Tasks), Next: h.Next}
}

func TestP9_2(t *testing.T) {
	h := sample()
	for i, x := range []struct {
		h               api.Hierarchy
		actor, id, user int
		e               api.Errno
	}{
		{h, 0, 2, 0, api.OK}, {h, 0, 6, 7, api.OK}, {h, 7, 3, 8, api.OK}, {h, 7, 4, 0, api.OK}, {h, 7, 5, api.MaxUser, api.OK}, {h, 9, 7, 9, api.OK}, {h, 8, 5, 8, api.OK},
		{bad, 0, 2, 7, api.ErrInvalid}, {h, -1, 2, 7, api.ErrInvalid}, {h, api.MaxUser + 1, 2, 7, api.ErrInvalid}, {h, 0, 2, -1, api.ErrInvalid}, {h, 0, 99, api.MaxUser + 1, api.ErrInvalid}, {h, 0, 99, 7, api.ErrUnknown}, {h, 5, 0, 7, api.ErrUnknown},
		{h, 0, 1, 7, api.ErrState}, {h, 5, 1, 7, api.ErrState}, {h, 7, 2, 7, api.ErrDenied}, {h, 7, 2, 0, api.ErrDenied}, {h, 7, 7, 7, api.ErrDenied}, {h, 8, 4, 8, api.ErrDenied}, {h, 5, 3, 5, api.ErrDenied}, {h, 9, 3, 9, api.ErrDenied},
	} {
		n, e := delegate.Grant(x.h.Tree, x.actor, x.id, x.user)
		var want api.Hierarchy
		if x.e == api.OK {
			want = api.Hierarchy{Tree: copied(x.h).Tree}
			want.Tree.Nodes[slices.IndexFunc(want.Tree.Nodes, func(n api.Node) bool { return n.ID == x.id })].Owner = x.user
		}
		compare(t, i, x.h, api.Hierarchy{Tree: n}, want, e, x.e)
	}
	if _, e := delegate.Grant(unfit.Tree, 0, 2, 3); e != api.OK {
		t.Error("Grant looks at the tree alone", e)
	}
}

func TestP9_3(t *testing.T) {
	h := sample()
	type call func(h api.Hierarchy, actor, id int) (api.Hierarchy, api.Errno)
	create := func(h api.Hierarchy, actor, id int) (api.Hierarchy, api.Errno) {
		n, child, e := delegate.Create(h, actor, id, "new")
		if (e == api.OK) != (child == 8) || e != api.OK && child != 0 {
			t.Error("Create", child, e)
		}
		return n, e
	}
	enable := func(h api.Hierarchy, actor, id int) (api.Hierarchy, api.Errno) {
		return delegate.Control(h, actor, id, api.CPU, api.Memory)
	}
	plain := map[string]call{
		"create": func(h api.Hierarchy, actor, id int) (api.Hierarchy, api.Errno) {
			n, _, e := threaded.Create(h, id, "new")
			return n, e
		},
		"remove": func(h api.Hierarchy, actor, id int) (api.Hierarchy, api.Errno) { return member.Remove(h, id) },
		"control": func(h api.Hierarchy, actor, id int) (api.Hierarchy, api.Errno) {
			return threaded.Enable(h, id, api.CPU, api.Memory)
		},
		"convert": func(h api.Hierarchy, actor, id int) (api.Hierarchy, api.Errno) { return threaded.Convert(h, id) },
	}
	calls := map[string]call{"create": create, "remove": delegate.Remove, "control": enable, "convert": delegate.Convert}
	done, refused := map[string]int{}, map[string]int{}
	for what, f := range calls {
		for _, h := range []api.Hierarchy{h, with(func(h *api.Hierarchy) { h.Tasks = nil })} {
			for _, actor := range []int{-1, 0, 5, 7, 8, 9, api.MaxUser, api.MaxUser + 1} {
				for id := 0; id < 9; id++ {
					right := delegate.Full(h.Tree, actor, id)
					if what == "create" || what == "control" {
						right = delegate.Enter(h.Tree, actor, id)
					}
					_, known := tree.Find(h.Tree, id)
					want, e := plain[what](h, actor, id)
					switch {
					case actor < 0 || actor > api.MaxUser:
						want, e = api.Hierarchy{}, api.ErrInvalid
					case !known:
						want, e = api.Hierarchy{}, api.ErrUnknown
					case !right:
						want, e = api.Hierarchy{}, api.ErrDenied
					case e == api.OK:
						done[what]++
					default:
						refused[what]++
					}
					n, got := f(h, actor, id)
					compare(t, actor*100+id, h, n, want, got, e)
				}
			}
		}
		for _, id := range []int{2, 99} {
			if n, e := f(bad, 0, id); e != api.ErrInvalid || !eq(n, api.Hierarchy{}) {
				t.Error(what, n, e)
			}
			if n, e := f(unfit, 0, id); e != api.ErrInvalid || !eq(n, api.Hierarchy{}) {
				t.Error(what, n, e)
			}
		}
		if done[what] < 2 || what != "create" && refused[what] < 2 {
			t.Error(what, done[what], refused[what])
		}
	}
	if _, _, e := delegate.Create(h, 7, 2, "b"); e != api.ErrExists {
		t.Error(e)
	}
	if _, _, e := delegate.Create(h, 7, 6, "p"); e != api.ErrDenied {
		t.Error(e)
	}
}

func TestP9_4Move(t *testing.T) {
	h := sample()
	split := with(func(h *api.Hierarchy) { h.Tree.Nodes[2].Kind = api.KindThreaded; h.Tasks[1].Group = 3 })
	foreign := api.Hierarchy{Next: 3, Tree: api.Tree{Next: 4, Nodes: []api.Node{{ID: 1}, {ID: 2, Parent: 1, Name: "a", Owner: 7, Kind: api.KindThreaded}, {ID: 3, Parent: 2, Name: "b", Kind: api.KindThreaded}}}, Tasks: []api.Task{{ID: 1, Process: 1, Group: 2, User: 7}, {ID: 2, Process: 1, Group: 1, User: 7}}}
	for i, x := range []struct {
		h                     api.Hierarchy
		actor, process, group int
		e                     api.Errno
	}{
		{h, 0, 1, 6, api.OK}, {h, 0, 4, 1, api.OK}, {h, 7, 1, 3, api.OK}, {h, 7, 1, 5, api.OK}, {h, 7, 1, 2, api.OK}, {h, 7, 9, 2, api.OK}, {h, 8, 3, 4, api.OK}, {h, 9, 4, 7, api.OK}, {split, 7, 1, 4, api.OK},
		{bad, 0, 1, 3, api.ErrInvalid}, {unfit, 0, 1, 3, api.ErrInvalid}, {h, -1, 1, 3, api.ErrInvalid}, {h, api.MaxUser + 1, 99, 3, api.ErrInvalid},
		{h, 7, 2, 3, api.ErrUnknown}, {h, 7, 99, 3, api.ErrUnknown}, {h, 7, 1, 99, api.ErrUnknown}, {h, 5, 0, 0, api.ErrUnknown}, {h, 9, 1, 99, api.ErrUnknown},
		{h, 8, 1, 4, api.ErrDenied}, {h, 7, 3, 2, api.ErrDenied}, {h, 7, 8, 2, api.ErrDenied}, {h, 7, 1, 6, api.ErrDenied}, {h, 7, 1, 1, api.ErrDenied}, {h, 7, 6, 2, api.ErrDenied}, {h, 7, 1, 7, api.ErrDenied}, {h, 7, 7, 2, api.ErrDenied}, {h, 8, 3, 2, api.ErrDenied}, {foreign, 7, 1, 3, api.ErrDenied}, {foreign, 0, 1, 3, api.ErrKind}, {foreign, 0, 1, 1, api.OK},
		{split, 7, 1, 3, api.ErrKind}, {split, 8, 1, 3, api.ErrDenied}, {with(func(h *api.Hierarchy) { h.Tree.Nodes[1].Control = api.Memory | api.CPU; h.Tasks = h.Tasks[6:] }), 7, 9, 2, api.ErrBusy},
	} {
		n, e := delegate.Move(x.h, x.actor, x.process, x.group)
		var want api.Hierarchy
		if x.e == api.OK {
			want = copied(x.h)
			for k := range want.Tasks {
				if want.Tasks[k].Process == x.process {
					want.Tasks[k].Group = x.group
				}
			}
		}
		compare(t, i, x.h, n, want, e, x.e)
	}
}

func TestP9_4MoveThread(t *testing.T) {
	h := with(func(h *api.Hierarchy) {
		h.Tree.Nodes[2].Kind = api.KindThreaded
		h.Tree.Nodes[6].Kind = api.KindThreaded
		h.Tasks[7].Group = 2
		h.Tasks[3].User = 7
		h.Tasks[6].User = 9
	})
	if !threaded.Fits(h) {
		t.Fatal("sample")
	}
	for i, x := range []struct {
		h                  api.Hierarchy
		actor, task, group int
		e                  api.Errno
	}{
		{h, 0, 1, 3, api.OK}, {h, 7, 1, 3, api.OK}, {h, 7, 2, 3, api.OK}, {h, 7, 2, 2, api.OK}, {h, 9, 7, 6, api.OK}, {h, 0, 8, 3, api.OK}, {h, 9, 7, 7, api.OK},
		{bad, 0, 1, 3, api.ErrInvalid}, {unfit, 0, 1, 3, api.ErrInvalid}, {h, -1, 1, 3, api.ErrInvalid}, {h, api.MaxUser + 1, 99, 3, api.ErrInvalid},
		{h, 7, 99, 3, api.ErrUnknown}, {h, 7, 0, 3, api.ErrUnknown}, {h, 7, 2, 99, api.ErrUnknown}, {h, 5, 99, 99, api.ErrUnknown},
		{h, 8, 2, 4, api.ErrDenied}, {h, 7, 8, 3, api.ErrDenied}, {h, 7, 4, 7, api.ErrDenied}, {h, 7, 1, 6, api.ErrDenied}, {h, 7, 6, 3, api.ErrDenied}, {h, 7, 1, 7, api.ErrDenied},
		{h, 7, 1, 4, api.ErrState}, {h, 0, 1, 1, api.ErrState}, {h, 0, 4, 3, api.ErrState}, {h, 7, 9, 2, api.ErrState},
	} {
		n, e := delegate.MoveThread(x.h, x.actor, x.task, x.group)
		var want api.Hierarchy
		if x.e == api.OK {
			want = copied(x.h)
			want.Tasks[slices.IndexFunc(want.Tasks, func(k api.Task) bool { return k.ID == x.task })].Group = x.group
		}
		compare(t, i, x.h, n, want, e, x.e)
	}
}

// TestConsequences: what a user other than 0 does stays within the groups that the user may enter.
func TestConsequences(t *testing.T) {
	r := rand.New(rand.NewSource(9))
	h := sample()
	done := 0
	for i := 0; i < 15000; i++ {
		user := []int{7, 8, 9}[r.Intn(3)]
		id := 1 + r.Intn(h.Tree.Next)
		if r.Intn(3) > 0 {
			id = h.Tree.Nodes[r.Intn(len(h.Tree.Nodes))].ID
		}
		task := 1 + r.Intn(9)
		var n api.Hierarchy
		var e api.Errno
		switch r.Intn(7) {
		case 0:
			if len(h.Tree.Nodes) < 12 {
				n, _, e = delegate.Create(h, user, id, string(rune('a'+r.Intn(3))))
			} else {
				e = api.ErrLimit
			}
		case 1:
			n, e = delegate.Remove(h, user, id)
		case 2:
			n, e = delegate.Control(h, user, id, r.Intn(4)&r.Intn(4), 0)
		case 3:
			n, e = delegate.Control(h, user, id, 0, r.Intn(4))
		case 4:
			n, e = delegate.Convert(h, user, id)
		case 5:
			n, e = delegate.Move(h, user, task, id)
		case 6:
			n, e = delegate.MoveThread(h, user, task, id)
		}
		if e != api.OK {
			continue
		}
		done++
		if !threaded.Fits(n) {
			t.Fatal(n)
		}
		for _, a := range h.Tree.Nodes {
			b, ok := tree.Find(n.Tree, a.ID)
			if delegate.Enter(h.Tree, user, a.ID) {
				a.Control, b.Control = 0, 0
			}
			if (!ok || a != b) && !delegate.Full(h.Tree, user, a.ID) {
				t.Fatal("a group", user, a, b)
			}
		}
		for _, b := range n.Tree.Nodes {
			if _, ok := tree.Find(h.Tree, b.ID); !ok && !delegate.Enter(h.Tree, user, b.Parent) {
				t.Fatal("a new group", user, b)
			}
		}
		for k, a := range h.Tasks {
			if b := n.Tasks[k]; a != b && !(a.User == user && delegate.Enter(h.Tree, user, a.Group) && delegate.Enter(h.Tree, user, b.Group)) {
				t.Fatal("a task", user, a, b)
			}
		}
		h = n
	}
	if done < 300 {
		t.Error(done)
	}
}
