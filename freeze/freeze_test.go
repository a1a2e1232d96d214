package freeze_test

import (
	"fmt"
	"math/rand"
	"slices"
	"testing"

	"groupcontrol/api"
	"groupcontrol/freeze"
	"groupcontrol/member"
	"groupcontrol/tree"
)

func eq(a, b any) bool { return fmt.Sprint(a) == fmt.Sprint(b) }

// sample has /a (2), /a/b (3), /d (5); the task 1 is in /a, 2 and 4 in /a/b, 6 in /.
func sample() api.Hierarchy {
	return api.Hierarchy{Next: 7, Tree: api.Tree{Next: 6, Nodes: []api.Node{{ID: 1}, {ID: 2, Parent: 1, Name: "a"}, {ID: 3, Parent: 2, Name: "b"}, {ID: 5, Parent: 1, Name: "d"}}}, Tasks: []api.Task{
		{ID: 1, Process: 1, Group: 2}, {ID: 2, Process: 2, Group: 3}, {ID: 4, Process: 4, Group: 3}, {ID: 6, Process: 6, Group: 1},
	}}
}

var bad = func() api.Hierarchy { h := sample(); h.Next = 1; return h }()

// frosts returns frosts for the sample: those that want, and those that are frozen.
func frosts(want, frozen []int) []api.Frost {
	var l []api.Frost
	for _, n := range sample().Tree.Nodes {
		l = append(l, api.Frost{Group: n.ID, Want: slices.Contains(want, n.ID), Frozen: slices.Contains(frozen, n.ID), Changes: n.ID})
	}
	return l
}

// base: /a is wanted frozen, the tasks 2 and 4 have stopped, and so /a/b is frozen.
func base() api.Freezer {
	return api.Freezer{Frosts: frosts([]int{2}, []int{3}), Stopped: []int{2, 4}}
}

func with(change func(*api.Freezer)) api.Freezer {
	f := base()
	change(&f)
	return f
}

func TestP36_1(t *testing.T) {
	if f := freeze.New(sample()); !eq(f, api.Freezer{Frosts: []api.Frost{{Group: 1}, {Group: 2}, {Group: 3}, {Group: 5}}}) || !freeze.Valid(sample(), f) {
		t.Error(f)
	}
	if f := freeze.New(bad); !eq(f, api.Freezer{}) {
		t.Error(f)
	}
	for i, x := range []struct {
		h      api.Hierarchy
		change func(*api.Freezer)
		want   bool
	}{
		{sample(), func(f *api.Freezer) {}, true}, {bad, func(f *api.Freezer) {}, false}, {member.New(), func(f *api.Freezer) {}, false}, {sample(), func(f *api.Freezer) { f.Frosts = f.Frosts[:3] }, false}, {sample(), func(f *api.Freezer) { f.Frosts = append(f.Frosts, f.Frosts[3]) }, false}, {sample(), func(f *api.Freezer) { f.Frosts[3].Group = 4 }, false}, {sample(), func(f *api.Freezer) { f.Frosts[0], f.Frosts[3] = f.Frosts[3], f.Frosts[0] }, false},
		{sample(), func(f *api.Freezer) { f.Frosts[1].Changes = -1 }, false}, {sample(), func(f *api.Freezer) { f.Frosts[1].Changes = 0 }, true}, {sample(), func(f *api.Freezer) { f.Frosts[1].Changes = api.MaxValue }, true}, {sample(), func(f *api.Freezer) { f.Frosts[1].Changes = api.MaxValue + 1 }, false},
		{sample(), func(f *api.Freezer) { f.Frosts[1].Frozen = true }, false}, {sample(), func(f *api.Freezer) { f.Frosts[2].Frozen = false }, false}, {sample(), func(f *api.Freezer) { f.Frosts[3].Want = true }, false}, {sample(), func(f *api.Freezer) { f.Frosts[3].Want, f.Frosts[3].Frozen = true, true }, true}, {sample(), func(f *api.Freezer) { f.Frosts[3].Frozen = true }, false}, {sample(), func(f *api.Freezer) { f.Frosts[1].Want = false }, false}, {sample(), func(f *api.Freezer) { f.Frosts[1].Want, f.Frosts[2].Want = false, true }, true},
		{sample(), func(f *api.Freezer) { f.Stopped = []int{4, 2} }, false}, {sample(), func(f *api.Freezer) { f.Stopped = []int{2, 2, 4} }, false}, {sample(), func(f *api.Freezer) { f.Stopped = []int{2, 3, 4} }, false}, {sample(), func(f *api.Freezer) { f.Stopped = []int{2, 4, 6} }, false}, {sample(), func(f *api.Freezer) { f.Stopped = []int{2} }, false}, {sample(), func(f *api.Freezer) { f.Stopped = []int{1, 2, 4} }, false}, {sample(), func(f *api.Freezer) { f.Stopped, f.Frosts[1].Frozen = []int{1, 2, 4}, true }, true}, {sample(), func(f *api.Freezer) { f.Stopped, f.Frosts[2].Frozen = nil, false }, true},
		{sample(), func(f *api.Freezer) { f.Frosts[0].Want, f.Frosts[3].Frozen = true, true }, true},
	} {
		if freeze.Valid(x.h, with(x.change)) != x.want {
			t.Error(i)
		}
	}
}

func TestP36_2(t *testing.T) {
	tr := sample().Tree
	wrong := tr
	wrong.Next = 1
	for id, want := range map[int]bool{1: false, 2: true, 3: true, 5: false, 4: false, 0: false} {
		if freeze.Wanted(tr, base(), id) != want || freeze.Wanted(wrong, base(), id) {
			t.Error(id)
		}
	}
	odd := api.Freezer{Frosts: []api.Frost{{Group: 3, Changes: 1}, {Group: 5, Want: true}, {Group: 3, Want: true}, {Group: 9, Want: true}}, Stopped: []int{9, 5, 9}}
	if freeze.Wanted(tr, odd, 3) || !freeze.Wanted(tr, odd, 5) || freeze.Wanted(tr, odd, 9) || freeze.Wanted(tr, odd, 1) {
		t.Error("the first frost counts")
	}
	root := api.Freezer{Frosts: []api.Frost{{Group: 1, Want: true}}}
	if !freeze.Wanted(tr, root, 3) || !freeze.Wanted(tr, root, 1) {
		t.Error("the root")
	}
	for id, want := range map[int]api.Frost{3: odd.Frosts[0], 5: odd.Frosts[1], 2: {Group: 2}} {
		if x := freeze.Get(odd, id); x != want {
			t.Error(id, x)
		}
	}
	for id, want := range map[int]bool{9: true, 5: true, 1: false} {
		if freeze.Stopped(odd, id) != want {
			t.Error(id)
		}
	}
}

// compare compares a freezer with what is expected, and sees that it shares no memory with the argument.
func compare(t *testing.T, i int, f, got, want api.Freezer, e, x api.Errno) {
	t.Helper()
	before := fmt.Sprint(f)
	if e != x || !eq(got, want) {
		t.Error(i, got, want, e)
	}
	for k := range got.Frosts {
		got.Frosts[k].Group = 99
	}
	for k := range got.Stopped {
		got.Stopped[k] = 99
	}
	if fmt.Sprint(f) != before {
		t.Error(i, "memory is shared")
	}
}

func TestP36_3(t *testing.T) {
	wrong := with(func(f *api.Freezer) { f.Stopped = nil })
	full := with(func(f *api.Freezer) { f.Frosts[2].Changes = api.MaxValue })
	for i, x := range []struct {
		h      api.Hierarchy
		f      api.Freezer
		id     int
		want   bool
		expect api.Freezer
		e      api.Errno
	}{
		{sample(), base(), 2, false, with(func(f *api.Freezer) {
			f.Frosts[1].Want, f.Frosts[2].Frozen, f.Frosts[2].Changes, f.Stopped = false, false, 4, nil
		}), api.OK},
		{sample(), base(), 2, true, base(), api.OK}, {sample(), base(), 3, true, with(func(f *api.Freezer) { f.Frosts[2].Want = true }), api.OK}, {sample(), base(), 3, false, base(), api.OK},
		{sample(), base(), 5, true, with(func(f *api.Freezer) { f.Frosts[3].Want, f.Frosts[3].Frozen, f.Frosts[3].Changes = true, true, 6 }), api.OK},
		{sample(), with(func(f *api.Freezer) { f.Frosts[2].Want = true }), 2, false, with(func(f *api.Freezer) { f.Frosts[1].Want, f.Frosts[2].Want = false, true }), api.OK},
		{sample(), full, 2, false, with(func(f *api.Freezer) {
			f.Frosts[1].Want, f.Frosts[2].Frozen, f.Frosts[2].Changes, f.Stopped = false, false, api.MaxValue, nil
		}), api.OK},
		{sample(), with(func(f *api.Freezer) { f.Frosts[1].Frozen, f.Stopped, f.Frosts[2].Want = true, []int{1, 2, 4}, true }), 2, false, with(func(f *api.Freezer) {
			f.Frosts[1].Want, f.Frosts[1].Changes, f.Frosts[2].Want = false, 3, true
		}), api.OK},
		{bad, base(), 9, true, api.Freezer{}, api.ErrInvalid}, {sample(), wrong, 9, true, api.Freezer{}, api.ErrInvalid}, {sample(), base(), 4, true, api.Freezer{}, api.ErrUnknown}, {sample(), base(), 1, true, api.Freezer{}, api.ErrState}, {sample(), base(), 1, false, api.Freezer{}, api.ErrState},
	} {
		got, e := freeze.Set(x.h, x.f, x.id, x.want)
		if e == api.OK && !freeze.Valid(x.h, got) {
			t.Error(i, "not valid")
		}
		compare(t, i, x.f, got, x.expect, e, x.e)
	}
}

func TestP36_4(t *testing.T) {
	wrong := with(func(f *api.Freezer) { f.Stopped = nil })
	for i, x := range []struct {
		h    api.Hierarchy
		f    api.Freezer
		busy []int
		want api.Freezer
		e    api.Errno
	}{
		{sample(), base(), nil, with(func(f *api.Freezer) { f.Stopped, f.Frosts[1].Frozen, f.Frosts[1].Changes = []int{1, 2, 4}, true, 3 }), api.OK}, {sample(), base(), []int{1}, base(), api.OK}, {sample(), base(), []int{4, 1, 2, 9}, base(), api.OK}, {sample(), base(), []int{4, 6}, with(func(f *api.Freezer) { f.Stopped, f.Frosts[1].Frozen, f.Frosts[1].Changes = []int{1, 2, 4}, true, 3 }), api.OK},
		{sample(), with(func(f *api.Freezer) { f.Stopped, f.Frosts[2].Frozen = nil, false }), []int{4}, with(func(f *api.Freezer) { f.Stopped, f.Frosts[2].Frozen = []int{1, 2}, false }), api.OK}, {sample(), freeze.New(sample()), nil, freeze.New(sample()), api.OK},
		{bad, base(), nil, api.Freezer{}, api.ErrInvalid}, {sample(), wrong, nil, api.Freezer{}, api.ErrInvalid},
	} {
		got, e := freeze.Step(x.h, x.f, x.busy)
		if e == api.OK && !freeze.Valid(x.h, got) {
			t.Error(i, "not valid")
		}
		compare(t, i, x.f, got, x.want, e, x.e)
	}
}

func TestP36_5(t *testing.T) {
	h := sample()
	h.Tree, _, _ = tree.Add(h.Tree, 2, "new")
	moved, _ := member.Place(h, 2, 1)
	in, _ := member.Place(h, 6, 3)
	odd := api.Freezer{Frosts: []api.Frost{{Group: 9, Want: true}, {Group: 1, Want: true, Frozen: true, Changes: -3}, {Group: 5, Changes: api.MaxValue + 5}, {Group: 2, Want: true, Changes: -1}, {Group: 2}}, Stopped: []int{6, 4, 1, 4, 77, -1}}
	for i, x := range []struct {
		h    api.Hierarchy
		f    api.Freezer
		want api.Freezer
		e    api.Errno
	}{
		{sample(), base(), base(), api.OK},
		{h, base(), api.Freezer{Frosts: append(base().Frosts, api.Frost{Group: 6, Frozen: true, Changes: 1}), Stopped: []int{2, 4}}, api.OK},
		{moved, base(), api.Freezer{Frosts: append(base().Frosts, api.Frost{Group: 6, Frozen: true, Changes: 1}), Stopped: []int{4}}, api.OK},
		{in, base(), api.Freezer{Frosts: append(with(func(f *api.Freezer) { f.Frosts[2].Frozen, f.Frosts[2].Changes = false, 4 }).Frosts, api.Frost{Group: 6, Frozen: true, Changes: 1}), Stopped: []int{2, 4}}, api.OK},
		{sample(), odd, api.Freezer{Frosts: []api.Frost{{Group: 1, Changes: 1}, {Group: 2, Want: true}, {Group: 3}, {Group: 5, Changes: api.MaxValue}}, Stopped: []int{1, 4}}, api.OK},
		{bad, base(), api.Freezer{}, api.ErrInvalid},
	} {
		got, e := freeze.Adjust(x.h, x.f)
		if e == api.OK && !freeze.Valid(x.h, got) {
			t.Error(i, "not valid")
		}
		compare(t, i, x.f, got, x.want, e, x.e)
	}
}

// TestExample plays the examples of chapter 36.
func TestExample(t *testing.T) {
	h := sample()
	h.Tasks = h.Tasks[1:2]
	f, _ := freeze.Set(h, freeze.New(h), 2, true)
	if freeze.Get(f, 2).Frozen || freeze.Get(f, 3).Frozen {
		t.Error(f)
	}
	if g, _ := freeze.Step(h, f, []int{2}); !eq(f, g) {
		t.Error(g)
	}
	f, _ = freeze.Step(h, f, nil)
	if a, b := freeze.Get(f, 2), freeze.Get(f, 3); !a.Frozen || !b.Frozen || a.Changes != 1 || b.Changes != 1 {
		t.Error(f)
	}
	if f, _ = freeze.Set(h, f, 5, true); !freeze.Get(f, 5).Frozen {
		t.Error(f)
	}
}

// TestConsequences checks the laws of chapter 36.
func TestConsequences(t *testing.T) {
	r := rand.New(rand.NewSource(38))
	h, f := sample(), freeze.New(sample())
	for i := 0; i < 4000; i++ {
		group := []int{1, 2, 3, 5}[r.Intn(4)]
		before := f
		var e api.Errno
		switch r.Intn(4) {
		case 0, 1:
			f, e = freeze.Set(h, f, group, r.Intn(2) == 0)
		case 2:
			var busy []int
			for _, k := range h.Tasks {
				if r.Intn(3) == 0 {
					busy = append(busy, k.ID)
				}
			}
			f, e = freeze.Step(h, f, busy)
		case 3:
			h, _ = member.Place(h, []int{1, 2, 4, 6}[r.Intn(4)], group)
			f, e = freeze.Adjust(h, f)
		}
		if e != api.OK {
			f = before
			continue
		}
		if !freeze.Valid(h, f) {
			t.Fatal(h, f)
		}
		still, _ := freeze.Step(h, f, nil)
		for _, n := range h.Tree.Nodes {
			if freeze.Get(f, n.Parent).Frozen && !freeze.Get(f, n.ID).Frozen || freeze.Wanted(h.Tree, f, n.ID) != freeze.Get(still, n.ID).Frozen {
				t.Fatal(h, f)
			}
		}
	}
}
