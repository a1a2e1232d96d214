package tree_test

import (
	"fmt"
	"math/rand"
	"slices"
	"strconv"
	"strings"
	"testing"

	"groupcontrol/api"
	"groupcontrol/tree"
)

func eq(a, b any) bool { return fmt.Sprintf("%#v", fmt.Sprint(a)) == fmt.Sprintf("%#v", fmt.Sprint(b)) }

// sample is /a (2), /b (4), /a/x (5), /a/y (7), /a/x/b (8), /c (9).
func sample() api.Tree {
	return api.Tree{Next: 12, Nodes: []api.Node{
		{ID: 1, Control: 31, Owner: 3}, {ID: 2, Parent: 1, Name: "a", Control: 5, Owner: 7}, {ID: 4, Parent: 1, Name: "b", Kind: api.KindThreaded},
		{ID: 5, Parent: 2, Name: "x"}, {ID: 7, Parent: 2, Name: "y"}, {ID: 8, Parent: 5, Name: "b"}, {ID: 9, Parent: 1, Name: "c"},
	}}
}

// chain returns a tree of n groups, each one below the one before it.
func chain(n int) api.Tree {
	t := api.Tree{Nodes: []api.Node{{ID: 1}}, Next: n + 1}
	for i := 2; i <= n; i++ {
		t.Nodes = append(t.Nodes, api.Node{ID: i, Parent: i - 1, Name: "n"})
	}
	return t
}

// wide returns a tree of n groups, all but the first one below the root.
func wide(n int) api.Tree {
	t := api.Tree{Nodes: []api.Node{{ID: 1}}, Next: n + 1}
	for i := 2; i <= n; i++ {
		t.Nodes = append(t.Nodes, api.Node{ID: i, Parent: 1, Name: "n" + strconv.Itoa(i)})
	}
	return t
}

// with returns the sample with a change.
func with(change func(*api.Tree)) api.Tree {
	t := sample()
	change(&t)
	return t
}

func TestP5_1(t *testing.T) {
	if n := tree.New(); !eq(n, api.Tree{Nodes: []api.Node{{ID: 1}}, Next: 2}) || !tree.Check(n) {
		t.Error(n)
	}
	for i, x := range []struct {
		t    api.Tree
		want bool
	}{
		{sample(), true}, {api.Tree{}, false}, {api.Tree{Next: 2}, false}, {chain(9), true}, {chain(10), false}, {wide(64), true}, {wide(65), false},
		{with(func(t *api.Tree) { t.Nodes[0].ID = 0 }), false}, {api.Tree{Nodes: []api.Node{{ID: 2}}, Next: 3}, false},
		{with(func(t *api.Tree) { t.Nodes[0].Parent = 1 }), false}, {with(func(t *api.Tree) { t.Nodes[0].Parent = -1 }), false},
		{with(func(t *api.Tree) { t.Nodes[0].Name = "r" }), false}, {with(func(t *api.Tree) { t.Nodes[0].Kind = 1 }), false},
		{with(func(t *api.Tree) { t.Nodes[0].Control = 32 }), false}, {with(func(t *api.Tree) { t.Nodes[0].Control = -1 }), false}, {with(func(t *api.Tree) { t.Nodes[0].Control = 0 }), true},
		{with(func(t *api.Tree) { t.Nodes[0].Owner = -1 }), false}, {with(func(t *api.Tree) { t.Nodes[0].Owner = api.MaxUser }), true}, {with(func(t *api.Tree) { t.Nodes[0].Owner = api.MaxUser + 1 }), false},
		{with(func(t *api.Tree) { t.Nodes[3].ID = 4 }), false}, {with(func(t *api.Tree) { t.Nodes[3].ID = 3 }), false}, {with(func(t *api.Tree) { t.Nodes[3].ID = 6; t.Nodes[5].Parent = 6 }), true},
		{with(func(t *api.Tree) { t.Nodes[6].ID = 8 }), false}, {with(func(t *api.Tree) { t.Nodes[6].ID = 6 }), false}, {with(func(t *api.Tree) { t.Nodes[6].ID = 10 }), true},
		{with(func(t *api.Tree) { t.Nodes[3].Parent = 3 }), false}, {with(func(t *api.Tree) { t.Nodes[3].Parent = 0 }), false}, {with(func(t *api.Tree) { t.Nodes[3].Parent = 5 }), false}, {with(func(t *api.Tree) { t.Nodes[3].Parent = 7 }), false}, {with(func(t *api.Tree) { t.Nodes[3].Parent = 4 }), true},
		{with(func(t *api.Tree) { t.Nodes[3].Name = "" }), false}, {with(func(t *api.Tree) { t.Nodes[3].Name = "-x" }), false}, {with(func(t *api.Tree) { t.Nodes[3].Name = "y" }), false}, {with(func(t *api.Tree) { t.Nodes[3].Name = "a" }), true}, {with(func(t *api.Tree) { t.Nodes[6].Name = "a" }), false}, {with(func(t *api.Tree) { t.Nodes[2].Name = "a" }), false},
		{with(func(t *api.Tree) { t.Nodes[3].Kind = 1 }), true}, {with(func(t *api.Tree) { t.Nodes[3].Kind = 2 }), false}, {with(func(t *api.Tree) { t.Nodes[3].Kind = -1 }), false},
		{with(func(t *api.Tree) { t.Nodes[3].Control = 31 }), true}, {with(func(t *api.Tree) { t.Nodes[3].Control = 32 }), false}, {with(func(t *api.Tree) { t.Nodes[3].Control = -32 }), false},
		{with(func(t *api.Tree) { t.Nodes[3].Owner = api.MaxUser }), true}, {with(func(t *api.Tree) { t.Nodes[3].Owner = api.MaxUser + 1 }), false}, {with(func(t *api.Tree) { t.Nodes[3].Owner = -1 }), false},
		{with(func(t *api.Tree) { t.Next = 9 }), false}, {with(func(t *api.Tree) { t.Next = 10 }), true}, {with(func(t *api.Tree) { t.Next = 0 }), false}, {with(func(t *api.Tree) { t.Next = api.MaxID + 1 }), true}, {with(func(t *api.Tree) { t.Next = api.MaxID + 2 }), false},
		{with(func(t *api.Tree) { t.Nodes[6].ID = api.MaxID; t.Next = api.MaxID + 1 }), true}, {with(func(t *api.Tree) { t.Nodes[6].ID = api.MaxID + 1; t.Next = api.MaxID + 2 }), false},
	} {
		if tree.Check(x.t) != x.want {
			t.Error(i, x.t)
		}
	}
}

func TestP5_2(t *testing.T) {
	s := sample()
	paths := map[int]string{1: "/", 2: "/a", 4: "/b", 5: "/a/x", 7: "/a/y", 8: "/a/x/b", 9: "/c"}
	for id := -1; id < 14; id++ {
		i := slices.IndexFunc(s.Nodes, func(n api.Node) bool { return n.ID == id })
		var want api.Node
		if i >= 0 {
			want = s.Nodes[i]
		}
		if n, ok := tree.Find(s, id); ok != (i >= 0) || n != want {
			t.Error("Find", id, n, ok)
		}
		if p, ok := tree.Path(s, id); ok != (i >= 0) || p != paths[id] {
			t.Error("Path", id, p, ok)
		}
		if g, ok := tree.Lookup(s, paths[id]); i >= 0 && (g != id || !ok) {
			t.Error("Lookup", id, g, ok)
		}
	}
	for _, p := range []string{"", "a", "/x", "/b/x", "/a/x/b/c", "/a/", "//", "/a/b", "/A", strings.Repeat("/a", 9)} {
		if g, ok := tree.Lookup(s, p); g != 0 || ok {
			t.Error(p, g, ok)
		}
	}
	if p, ok := tree.Path(chain(9), 9); p != strings.Repeat("/n", 8) || !ok {
		t.Error(p)
	}
	bad := with(func(t *api.Tree) { t.Next = 3 })
	if n, ok := tree.Find(bad, 2); n != (api.Node{}) || ok {
		t.Error(n)
	}
	if n, ok := tree.Lookup(bad, "/a"); n != 0 || ok {
		t.Error(n)
	}
	if n, ok := tree.Lookup(bad, "/"); n != 0 || ok {
		t.Error(n)
	}
	if n, ok := tree.Path(bad, 2); n != "" || ok {
		t.Error(n)
	}
}

func TestP5_3(t *testing.T) {
	s := sample()
	bad := with(func(t *api.Tree) { t.Next = 3 })
	for _, x := range []struct {
		id                           int
		children, ancestors, subtree []int
		depth                        int
	}{
		{1, []int{2, 4, 9}, []int{1}, []int{1, 2, 5, 8, 7, 4, 9}, 0}, {2, []int{5, 7}, []int{2, 1}, []int{2, 5, 8, 7}, 1}, {4, nil, []int{4, 1}, []int{4}, 1}, {5, []int{8}, []int{5, 2, 1}, []int{5, 8}, 2},
		{7, nil, []int{7, 2, 1}, []int{7}, 2}, {8, nil, []int{8, 5, 2, 1}, []int{8}, 3}, {9, nil, []int{9, 1}, []int{9}, 1}, {0, nil, nil, nil, -1}, {3, nil, nil, nil, -1}, {-1, nil, nil, nil, -1}, {12, nil, nil, nil, -1},
	} {
		if l := tree.Children(s, x.id); !eq(l, x.children) {
			t.Error("Children", x.id, l)
		}
		if l := tree.Ancestors(s, x.id); !eq(l, x.ancestors) {
			t.Error("Ancestors", x.id, l)
		}
		if l := tree.Subtree(s, x.id); !eq(l, x.subtree) {
			t.Error("Subtree", x.id, l)
		}
		if n := tree.Depth(s, x.id); n != x.depth {
			t.Error("Depth", x.id, n)
		}
		if tree.Children(bad, x.id) != nil || tree.Ancestors(bad, x.id) != nil || tree.Subtree(bad, x.id) != nil || tree.Depth(bad, x.id) != -1 {
			t.Error("a tree that Check refuses", x.id)
		}
	}
	for _, x := range []struct {
		a, b, want int
		ok         bool
	}{{1, 1, 1, true}, {8, 8, 8, true}, {8, 7, 2, true}, {7, 8, 2, true}, {8, 5, 5, true}, {5, 8, 5, true}, {8, 4, 1, true}, {2, 1, 1, true}, {8, 3, 0, false}, {3, 8, 0, false}, {3, 3, 0, false}, {0, 1, 0, false}} {
		if n, ok := tree.Common(s, x.a, x.b); n != x.want || ok != x.ok {
			t.Error("Common", x, n, ok)
		}
	}
	if n, ok := tree.Common(bad, 8, 7); n != 0 || ok {
		t.Error(n, ok)
	}
}

func TestP5_4Add(t *testing.T) {
	s := sample()
	last := with(func(t *api.Tree) { t.Next = api.MaxID })
	over := with(func(t *api.Tree) { t.Next = api.MaxID + 1 })
	bad := with(func(t *api.Tree) { t.Next = 3 })
	for i, x := range []struct {
		t      api.Tree
		parent int
		name   string
		id     int
		e      api.Errno
	}{
		{tree.New(), 1, "a", 2, api.OK}, {s, 1, "x", 12, api.OK}, {s, 8, "b", 12, api.OK}, {s, 4, "a", 12, api.OK}, {last, 9, "q", api.MaxID, api.OK},
		{bad, 1, "q", 0, api.ErrInvalid}, {api.Tree{}, 1, "q", 0, api.ErrInvalid}, {s, 1, "", 0, api.ErrInvalid}, {s, 3, "-", 0, api.ErrInvalid}, {s, 1, "q/r", 0, api.ErrInvalid},
		{s, 3, "q", 0, api.ErrUnknown}, {s, 0, "a", 0, api.ErrUnknown}, {wide(64), 70, "n2", 0, api.ErrUnknown},
		{s, 1, "a", 0, api.ErrExists}, {s, 5, "b", 0, api.ErrExists}, {wide(64), 1, "n2", 0, api.ErrExists}, {over, 1, "a", 0, api.ErrExists},
		{wide(64), 1, "q", 0, api.ErrLimit}, {wide(63), 1, "q", 64, api.OK}, {chain(9), 9, "n", 0, api.ErrLimit}, {chain(9), 8, "m", 10, api.OK}, {chain(8), 8, "n", 9, api.OK}, {over, 1, "q", 0, api.ErrLimit},
	} {
		before := fmt.Sprint(x.t)
		n, id, e := tree.Add(x.t, x.parent, x.name)
		if id != x.id || e != x.e {
			t.Error(i, id, e)
		}
		var want api.Tree
		if e == api.OK {
			want = api.Tree{Nodes: append(slices.Clone(x.t.Nodes), api.Node{ID: id, Parent: x.parent, Name: x.name}), Next: x.t.Next + 1}
		}
		if !eq(n, want) || e == api.OK && !tree.Check(n) {
			t.Error(i, n)
		}
		if len(n.Nodes) > 0 {
			n.Nodes[0].ID = 77
		}
		if fmt.Sprint(x.t) != before {
			t.Error(i, "the argument was changed")
		}
	}
	spare := tree.New()
	spare.Nodes = append(make([]api.Node, 0, 9), spare.Nodes...)
	tree.Add(spare, 1, "a")
	if spare.Nodes[:2][1].ID != 0 {
		t.Error("Add wrote behind the end of its argument")
	}
}

func TestP5_4Remove(t *testing.T) {
	s := sample()
	bad := with(func(t *api.Tree) { t.Next = 3 })
	for i, x := range []struct {
		t  api.Tree
		id int
		e  api.Errno
	}{
		{s, 8, api.OK}, {s, 4, api.OK}, {s, 9, api.OK}, {wide(64), 2, api.OK}, {bad, 8, api.ErrInvalid}, {bad, 3, api.ErrInvalid}, {s, 3, api.ErrUnknown}, {s, 0, api.ErrUnknown}, {s, 1, api.ErrState}, {tree.New(), 1, api.ErrState}, {s, 2, api.ErrBusy}, {s, 5, api.ErrBusy},
	} {
		before := fmt.Sprint(x.t)
		n, e := tree.Remove(x.t, x.id)
		var want api.Tree
		if x.e == api.OK {
			want = api.Tree{Nodes: slices.DeleteFunc(slices.Clone(x.t.Nodes), func(n api.Node) bool { return n.ID == x.id }), Next: x.t.Next}
		}
		if e != x.e || !eq(n, want) || e == api.OK && !tree.Check(n) {
			t.Error(i, n, e)
		}
		if len(n.Nodes) > 0 {
			n.Nodes[0].ID = 77
		}
		if fmt.Sprint(x.t) != before {
			t.Error(i, "the argument was changed")
		}
	}
}

// TestConsequences adds and removes groups at random.
func TestConsequences(t *testing.T) {
	r := rand.New(rand.NewSource(5))
	s := tree.New()
	given := map[int]bool{1: true}
	for i := 0; i < 1000; i++ {
		id := s.Nodes[r.Intn(len(s.Nodes))].ID
		n, child, e := tree.Add(s, id, string(rune('a'+r.Intn(5))))
		if e == api.OK {
			if given[child] {
				t.Fatal("an ID was given again:", child)
			}
			given[child] = true
			if back, e := tree.Remove(n, child); e != api.OK || !eq(back.Nodes, s.Nodes) {
				t.Fatal(back, e)
			}
			s = n
		}
		if n, e := tree.Remove(s, s.Nodes[r.Intn(len(s.Nodes))].ID); e == api.OK && r.Intn(2) == 0 {
			s = n
		}
		if !tree.Check(s) {
			t.Fatal(s)
		}
		for _, n := range s.Nodes {
			p, _ := tree.Path(s, n.ID)
			if id, ok := tree.Lookup(s, p); id != n.ID || !ok {
				t.Fatal(p, id)
			}
		}
		all := tree.Subtree(s, 1)
		slices.Sort(all)
		if len(all) != len(s.Nodes) || !slices.IsSorted(all) {
			t.Fatal(all)
		}
	}
}
