package control_test

import (
	"fmt"
	"math"
	"math/rand"
	"slices"
	"testing"

	"groupcontrol/api"
	"groupcontrol/control"
	"groupcontrol/member"
	"groupcontrol/tree"
)

func eq(a, b any) bool { return fmt.Sprint(a) == fmt.Sprint(b) }

// sample has /a (2: cpu, memory), /a/b (3: cpu), /a/t (4: threaded), /a/t/u (5) and /c (6); the root enables cpu, memory and pids.
func sample() api.Hierarchy {
	return api.Hierarchy{Next: 4, Tree: api.Tree{Next: 7, Nodes: []api.Node{
		{ID: 1, Control: api.CPU | api.Memory | api.Pids}, {ID: 2, Parent: 1, Name: "a", Control: api.CPU | api.Memory}, {ID: 3, Parent: 2, Name: "b", Control: api.CPU},
		{ID: 4, Parent: 2, Name: "t", Kind: api.KindThreaded, Control: api.CPU}, {ID: 5, Parent: 4, Name: "u"}, {ID: 6, Parent: 1, Name: "c"},
	}}, Tasks: []api.Task{{ID: 1, Process: 1, Group: 1}, {ID: 2, Process: 2, Group: 3}, {ID: 3, Process: 3, Group: 6}}}
}

func with(change func(*api.Hierarchy)) api.Hierarchy {
	h := sample()
	change(&h)
	return h
}

func TestP7_1(t *testing.T) {
	for _, x := range []struct {
		set  int
		want []string
		text string
	}{{0, nil, ""}, {1, []string{"cpu"}, "cpu"}, {2, []string{"memory"}, "memory"}, {4, []string{"io"}, "io"}, {8, []string{"pids"}, "pids"}, {16, []string{"cpuset"}, "cpuset"}, {22, []string{"memory", "io", "cpuset"}, "memory io cpuset"}, {31, []string{"cpu", "memory", "io", "pids", "cpuset"}, "cpu memory io pids cpuset"}, {32, nil, ""}, {33, []string{"cpu"}, "cpu"}, {-1, []string{"cpu", "memory", "io", "pids", "cpuset"}, "cpu memory io pids cpuset"}, {-32, nil, ""}, {math.MinInt, nil, ""}, {math.MaxInt - 2, []string{"cpu", "io", "pids", "cpuset"}, "cpu io pids cpuset"}} {
		if l := control.Names(x.set); !eq(l, x.want) {
			t.Error(x.set, l)
		}
		if s := control.Format(x.set); s != x.text {
			t.Error(x.set, s)
		}
	}
	for _, x := range []struct {
		text      string
		add, drop int
		e         api.Errno
	}{
		{"", 0, 0, api.OK}, {" ", 0, 0, api.OK}, {"     ", 0, 0, api.OK}, {"+cpu", 1, 0, api.OK}, {"+cpu -io", 1, 4, api.OK}, {"  -io   +cpu ", 1, 4, api.OK}, {"+memory", 2, 0, api.OK}, {"+io", 4, 0, api.OK}, {"+pids", 8, 0, api.OK}, {"+cpuset", 16, 0, api.OK},
		{"-cpu -memory -io -pids -cpuset", 0, 31, api.OK}, {"+cpu +memory +io +pids +cpuset", 31, 0, api.OK}, {"+cpu -cpu", 0, 1, api.OK}, {"-cpu +cpu", 1, 0, api.OK}, {"+cpu -cpu +cpu", 1, 0, api.OK}, {"-io +cpu +io -cpu", 4, 1, api.OK}, {"+cpu +cpu", 1, 0, api.OK}, {"-cpu +cpuset +memory -memory", 16, 3, api.OK},
		{"cpu", 0, 0, api.ErrText}, {"+", 0, 0, api.ErrText}, {"+ cpu", 0, 0, api.ErrText}, {"++cpu", 0, 0, api.ErrText}, {"+cpus", 0, 0, api.ErrText}, {"+CPU", 0, 0, api.ErrText}, {"+cpu,", 0, 0, api.ErrText}, {"+cpu\t+io", 0, 0, api.ErrText}, {"+cpu\n", 0, 0, api.ErrText}, {"+cpu x", 0, 0, api.ErrText}, {"x +cpu", 0, 0, api.ErrText}, {"+cpu+io", 0, 0, api.ErrText}, {"+hugetlb", 0, 0, api.ErrText}, {"-", 0, 0, api.ErrText}, {"*cpu", 0, 0, api.ErrText}, {"\t", 0, 0, api.ErrText},
	} {
		if a, d, e := control.Parse(x.text); a != x.add || d != x.drop || e != x.e {
			t.Errorf("Parse(%q) = %d, %d, %v", x.text, a, d, e)
		}
	}
}

func TestP7_2(t *testing.T) {
	h := sample()
	for id, want := range map[int][2]int{1: {31, 0}, 2: {11, 11}, 3: {3, 3}, 4: {1, 1}, 5: {1, 1}, 6: {11, 11}, 7: {0, 0}, 0: {0, 0}, -1: {0, 0}} {
		if a, b := control.Available(h.Tree, id), control.Acting(h.Tree, id); a != want[0] || b != want[1] {
			t.Error(id, a, b)
		}
	}
	h.Tree.Nodes[0].Control = 31
	if a := control.Available(h.Tree, 6); a != 31 {
		t.Error(a)
	}
	h.Tree.Nodes[5].Kind = api.KindThreaded
	if a, b := control.Available(h.Tree, 6), control.Acting(h.Tree, 6); a != 25 || b != 25 {
		t.Error(a, b)
	}
	h.Tree.Next = 0
	for id := range 8 {
		if control.Available(h.Tree, id) != 0 || control.Acting(h.Tree, id) != 0 {
			t.Error("a tree that Check refuses", id)
		}
	}
}

func TestP7_3(t *testing.T) {
	for i, x := range []struct {
		h    api.Hierarchy
		want bool
	}{
		{sample(), true}, {member.New(), true}, {api.Hierarchy{}, false}, {with(func(h *api.Hierarchy) { h.Next = 1 }), false}, {with(func(h *api.Hierarchy) { h.Tree.Next = 1 }), false},
		{with(func(h *api.Hierarchy) { h.Tree.Nodes[0].Control = 31 }), true}, {with(func(h *api.Hierarchy) { h.Tree.Nodes[0].Control = 9 }), false}, {with(func(h *api.Hierarchy) { h.Tree.Nodes[0].Control = 3 }), true},
		{with(func(h *api.Hierarchy) { h.Tree.Nodes[2].Control = api.IO }), false}, {with(func(h *api.Hierarchy) { h.Tree.Nodes[2].Control = api.Memory }), false}, {with(func(h *api.Hierarchy) { h.Tree.Nodes[2].Control = api.Memory; h.Tasks = nil }), true}, {with(func(h *api.Hierarchy) { h.Tree.Nodes[2].Control = api.Pids }), false},
		{with(func(h *api.Hierarchy) { h.Tree.Nodes[3].Control = api.Memory }), false}, {with(func(h *api.Hierarchy) { h.Tree.Nodes[4].Control = api.CPU }), true}, {with(func(h *api.Hierarchy) { h.Tree.Nodes[4].Control = api.Memory }), false},
		{with(func(h *api.Hierarchy) { h.Tasks[0].Group = 2 }), false}, {with(func(h *api.Hierarchy) { h.Tree.Nodes[1].Control = api.CPU; h.Tasks[0].Group = 2 }), true}, {with(func(h *api.Hierarchy) { h.Tree.Nodes[5].Control = api.Memory }), false}, {with(func(h *api.Hierarchy) { h.Tree.Nodes[0].Control |= api.IO; h.Tree.Nodes[5].Control = api.IO }), false}, {with(func(h *api.Hierarchy) { h.Tree.Nodes[5].Control = api.Pids | api.CPU }), true},
	} {
		if control.Sound(x.h) != x.want {
			t.Error(i)
		}
	}
}

func TestP7_4(t *testing.T) {
	h := sample()
	unsound := with(func(h *api.Hierarchy) { h.Tree.Nodes[2].Control = api.IO })
	busy := with(func(h *api.Hierarchy) { h.Tree.Nodes[0].Control = 31 })
	for i, x := range []struct {
		h         api.Hierarchy
		id        int
		add, drop int
		want      int
		e         api.Errno
	}{
		{h, 1, api.IO, 0, 15, api.OK}, {h, 1, api.IO | api.Cpuset, api.Pids, 23, api.OK}, {h, 1, 0, api.IO, 11, api.OK}, {h, 1, 0, 0, 11, api.OK}, {h, 2, api.Pids, 0, 11, api.OK}, {h, 2, 0, api.Memory, 1, api.OK}, {h, 3, 0, api.CPU, 0, api.OK}, {h, 5, api.CPU, 0, 1, api.OK}, {h, 6, api.Pids, 0, 8, api.OK}, {h, 3, api.CPU, 0, 1, api.OK},
		{unsound, 1, 0, 0, 0, api.ErrInvalid}, {unsound, 99, 0, 0, 0, api.ErrInvalid}, {h, 99, 1, 1, 0, api.ErrInvalid}, {h, 1, 32, 0, 0, api.ErrInvalid}, {h, 1, 0, 32, 0, api.ErrInvalid}, {h, 1, -1, 0, 0, api.ErrInvalid}, {h, 1, 0, -1, 0, api.ErrInvalid}, {h, 1, 6, 4, 0, api.ErrInvalid}, {h, 99, 32, 0, 0, api.ErrInvalid},
		{h, 99, 1, 0, 0, api.ErrUnknown}, {h, 0, 1, 0, 0, api.ErrUnknown},
		{h, 2, api.IO, 0, 0, api.ErrState}, {h, 2, api.IO | api.Pids, 0, 0, api.ErrState}, {h, 3, api.Pids, 0, 0, api.ErrState}, {h, 4, api.Memory, 0, 0, api.ErrState}, {h, 5, api.Memory, 0, 0, api.ErrState}, {h, 1, 0, api.CPU, 0, api.ErrState}, {h, 1, api.IO, api.Memory, 0, api.ErrState}, {h, 2, 0, api.CPU, 0, api.ErrState}, {h, 2, 0, api.CPU | api.Memory, 0, api.ErrState},
		{h, 3, api.Memory | api.IO, 0, 0, api.ErrState}, {h, 3, api.Memory, 0, 0, api.ErrBusy}, {h, 6, api.Memory, 0, 0, api.ErrBusy}, {busy, 6, api.IO | api.CPU, 0, 0, api.ErrBusy}, {busy, 6, api.Cpuset | api.CPU, api.IO, 17, api.OK},
		{with(func(h *api.Hierarchy) { h.Tasks = nil }), 3, api.Memory, 0, 3, api.OK}, {with(func(h *api.Hierarchy) { h.Tasks = nil }), 6, api.Memory, 0, 2, api.OK},
	} {
		before := fmt.Sprint(x.h)
		n, e := control.Write(x.h, x.id, x.add, x.drop)
		var want api.Hierarchy
		if x.e == api.OK {
			want = api.Hierarchy{Tree: api.Tree{Nodes: slices.Clone(x.h.Tree.Nodes), Next: x.h.Tree.Next}, Tasks: x.h.Tasks, Next: x.h.Next}
			for k := range want.Tree.Nodes {
				if want.Tree.Nodes[k].ID == x.id {
					want.Tree.Nodes[k].Control = x.want
				}
			}
		}
		if e != x.e || !eq(n, want) || e == api.OK && !control.Sound(n) {
			t.Error(i, n, e)
		}
		for k := range n.Tasks {
			n.Tasks[k].ID = 99
		}
		for k := range n.Tree.Nodes {
			n.Tree.Nodes[k].ID = 99
		}
		if fmt.Sprint(x.h) != before {
			t.Error(i, "the argument was changed")
		}
	}
}

// TestConsequences changes hierarchies at random.
func TestConsequences(t *testing.T) {
	r := rand.New(rand.NewSource(7))
	h := member.New()
	done := 0
	for i := 0; i < 20000; i++ {
		id := 1 + r.Intn(h.Tree.Next)
		if r.Intn(12) == 0 && len(h.Tree.Nodes) < 12 {
			if g, n, e := tree.Add(h.Tree, id, string(rune('a'+r.Intn(3)))); e == api.OK {
				h.Tree = g
				h.Tree.Nodes[len(g.Nodes)-1].Kind = r.Intn(2)
				_ = n
			}
			continue
		}
		if r.Intn(20) == 0 {
			if n, _, e := member.Spawn(h, id, 0); e == api.OK && control.Sound(n) {
				h = n
			}
			continue
		}
		add, drop := r.Intn(32)&r.Intn(32), r.Intn(32)&r.Intn(32)
		n, e := control.Write(h, id, add, drop)
		if e != api.OK {
			continue
		}
		done++
		if !control.Sound(n) {
			t.Fatal(n)
		}
		old, _ := tree.Find(h.Tree, id)
		if back, e := control.Write(n, id, drop&old.Control, add&^old.Control); e != api.OK || !eq(back, h) {
			t.Fatal(back, e)
		}
		for _, g := range n.Tree.Nodes {
			if g.Parent > api.Root && control.Acting(n.Tree, g.ID)&^control.Acting(n.Tree, g.Parent) != 0 {
				t.Fatal(g)
			}
		}
		h = n
	}
	if done < 500 {
		t.Error("only", done)
	}
}
