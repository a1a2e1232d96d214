package pids_test

import (
	"fmt"
	"math"
	"math/rand"
	"slices"
	"testing"

	"groupcontrol/api"
	"groupcontrol/member"
	"groupcontrol/pids"
	"groupcontrol/tree"
)

func eq(a, b any) bool { return fmt.Sprint(a) == fmt.Sprint(b) }

// sample has /a (2), /a/b (3), /c (5); three tasks are in /a/b, one in /a, two in /.
func sample() api.Hierarchy {
	return api.Hierarchy{Next: 9, Tree: api.Tree{Next: 6, Nodes: []api.Node{{ID: 1, Control: api.Memory}, {ID: 2, Parent: 1, Name: "a"}, {ID: 3, Parent: 2, Name: "b"}, {ID: 5, Parent: 1, Name: "c"}}}, Tasks: []api.Task{
		{ID: 1, Process: 1, Group: 3, User: 4}, {ID: 2, Process: 1, Group: 3, User: 4}, {ID: 4, Process: 4, Group: 3}, {ID: 5, Process: 5, Group: 2}, {ID: 6, Process: 6, Group: 1}, {ID: 8, Process: 8, Group: 1},
	}}
}

// counts returns counts that fit the sample, with the given limits.
func counts(limits ...int) []api.Count {
	return []api.Count{{Group: 1, Now: 6, Limit: limits[0], Peak: 9, Events: 1}, {Group: 2, Now: 4, Limit: limits[1], Peak: 4}, {Group: 3, Now: 3, Limit: limits[2], Peak: 7, Events: 5}, {Group: 5, Limit: limits[3]}}
}

func open() []api.Count { return counts(api.Max, api.Max, api.Max, api.Max) }

func crowd(n int) api.Hierarchy {
	h := member.New()
	for i := 1; i <= n; i++ {
		h.Tasks = append(h.Tasks, api.Task{ID: i, Process: i, Group: 1})
	}
	h.Next = n + 1
	return h
}

func TestP10_1(t *testing.T) {
	h := sample()
	want := []api.Count{{Group: 1, Now: 6, Limit: api.Max, Peak: 6}, {Group: 2, Now: 4, Limit: api.Max, Peak: 4}, {Group: 3, Now: 3, Limit: api.Max, Peak: 3}, {Group: 5, Limit: api.Max}}
	if l := pids.New(h); !eq(l, want) || !pids.Check(h, l) {
		t.Error(l)
	}
	if l := pids.New(api.Hierarchy{}); l != nil {
		t.Error(l)
	}
	bad := sample()
	bad.Next = 8
	for i, x := range []struct {
		h      api.Hierarchy
		change func(l []api.Count) []api.Count
		want   bool
	}{
		{h, func(l []api.Count) []api.Count { return l }, true}, {bad, func(l []api.Count) []api.Count { return l }, false},
		{h, func(l []api.Count) []api.Count { return nil }, false}, {h, func(l []api.Count) []api.Count { return l[:3] }, false}, {h, func(l []api.Count) []api.Count { return append(l, api.Count{Group: 6}) }, false},
		{h, func(l []api.Count) []api.Count { l[2], l[1] = l[1], l[2]; return l }, false}, {h, func(l []api.Count) []api.Count { l[3].Group = 4; return l }, false},
		{h, func(l []api.Count) []api.Count { l[1].Now = 3; return l }, false}, {h, func(l []api.Count) []api.Count { l[1].Now = 5; l[1].Peak = 5; return l }, false}, {h, func(l []api.Count) []api.Count { l[3].Now = 1; l[3].Peak = 1; return l }, false},
		{h, func(l []api.Count) []api.Count { l[1].Limit = -1; return l }, false}, {h, func(l []api.Count) []api.Count { l[1].Limit = 0; return l }, true}, {h, func(l []api.Count) []api.Count { l[1].Limit = api.MaxValue; return l }, true}, {h, func(l []api.Count) []api.Count { l[1].Limit = api.MaxValue + 1; return l }, false}, {h, func(l []api.Count) []api.Count { l[1].Limit = api.Max + 1; return l }, false}, {h, func(l []api.Count) []api.Count { l[1].Limit = api.Max - 1; return l }, false},
		{h, func(l []api.Count) []api.Count { l[0].Peak = 5; return l }, false}, {h, func(l []api.Count) []api.Count { l[0].Peak = 6; return l }, true}, {h, func(l []api.Count) []api.Count { l[0].Peak = 128; return l }, true}, {h, func(l []api.Count) []api.Count { l[0].Peak = 129; return l }, false}, {h, func(l []api.Count) []api.Count { l[3].Peak = -1; return l }, false},
		{h, func(l []api.Count) []api.Count { l[0].Events = -1; return l }, false}, {h, func(l []api.Count) []api.Count { l[0].Events = 0; return l }, true}, {h, func(l []api.Count) []api.Count { l[0].Events = api.MaxValue; return l }, true}, {h, func(l []api.Count) []api.Count { l[0].Events = api.MaxValue + 1; return l }, false},
	} {
		if pids.Check(x.h, x.change(open())) != x.want {
			t.Error(i)
		}
	}
	l := []api.Count{{Group: 3, Now: 1}, {Group: 2, Now: 2}, {Group: 3, Now: 3}}
	for group, want := range map[int]api.Count{3: l[0], 2: l[1], 1: {}} {
		if c, ok := pids.Get(l, group); c != want || ok != (want.Now > 0) {
			t.Error(group, c, ok)
		}
	}
}

func TestP10_2(t *testing.T) {
	h := sample()
	bad := open()
	bad[0].Now = 0
	for i, x := range []struct {
		l            []api.Count
		group, limit int
		at           int
		e            api.Errno
	}{
		{open(), 1, 0, 0, api.OK}, {open(), 3, 1, 2, api.OK}, {open(), 5, api.MaxValue, 3, api.OK}, {counts(1, 2, 3, 4), 2, api.Max, 1, api.OK},
		{bad, 1, 0, 0, api.ErrInvalid}, {bad, 9, 0, 0, api.ErrInvalid}, {open(), 9, -1, 0, api.ErrUnknown}, {open(), 4, 5, 0, api.ErrUnknown}, {open(), 2, -1, 0, api.ErrRange}, {open(), 2, api.MaxValue + 1, 0, api.ErrRange}, {open(), 2, api.Max - 1, 0, api.ErrRange}, {open(), 2, api.Max + 1, 0, api.ErrRange}, {open(), 2, math.MinInt, 0, api.ErrRange},
	} {
		before := fmt.Sprint(x.l)
		l, e := pids.Limit(h, x.l, x.group, x.limit)
		var want []api.Count
		if x.e == api.OK {
			want = slices.Clone(x.l)
			want[x.at].Limit = x.limit
		}
		if e != x.e || !eq(l, want) || e == api.OK && !pids.Check(h, l) {
			t.Error(i, l, e)
		}
		for k := range l {
			l[k].Group = 99
		}
		if fmt.Sprint(x.l) != before {
			t.Error(i, "the argument was changed")
		}
	}
	for i, x := range []struct {
		l           []api.Count
		group, want int
	}{
		{open(), 1, 128}, {open(), 3, 128}, {counts(10, 20, 20, 20), 1, 4}, {counts(10, 20, 20, 20), 3, 4}, {counts(10, 6, 20, 20), 3, 2}, {counts(10, 6, 20, 20), 2, 2}, {counts(10, 6, 4, 20), 3, 1}, {counts(10, 6, 4, 20), 2, 2}, {counts(10, 6, 3, 20), 3, 0}, {counts(10, 3, 3, 20), 3, 0}, {counts(10, 3, 4, 20), 2, 0}, {counts(10, 0, 4, 3), 5, 3}, {counts(6, 20, 20, 20), 5, 0}, {counts(133, 200, 200, 200), 3, 127}, {counts(135, 200, 200, 200), 3, 128},
		{open(), 4, 0}, {open(), 0, 0}, {bad, 1, 0}, {nil, 1, 0},
	} {
		if n := pids.Room(h, x.l, x.group); n != x.want {
			t.Error(i, n)
		}
	}
}

func TestP10_3(t *testing.T) {
	h := sample()
	bad := open()
	bad[0].Now = 0
	for i, x := range []struct {
		l        []api.Count
		group, n int
		want     []api.Count
		e        api.Errno
	}{
		{open(), 3, 2, []api.Count{{Group: 1, Now: 8, Limit: api.Max, Peak: 9, Events: 1}, {Group: 2, Now: 6, Limit: api.Max, Peak: 6}, {Group: 3, Now: 5, Limit: api.Max, Peak: 7, Events: 5}, {Group: 5, Limit: api.Max}}, api.OK},
		{counts(16, 9, 3, 9), 2, 5, []api.Count{{Group: 1, Now: 11, Limit: 16, Peak: 11, Events: 1}, {Group: 2, Now: 9, Limit: 9, Peak: 9}, {Group: 3, Now: 3, Limit: 3, Peak: 7, Events: 5}, {Group: 5, Limit: 9}}, api.OK},
		{counts(6, 6, 6, 6), 1, 0, counts(6, 6, 6, 6), api.OK}, {counts(5, 4, 3, 0), 3, 0, counts(5, 4, 3, 0), api.OK},
		{bad, 3, 1, nil, api.ErrInvalid}, {bad, 9, 1, nil, api.ErrInvalid}, {open(), 9, -1, nil, api.ErrInvalid}, {open(), 9, 129, nil, api.ErrInvalid}, {open(), 9, 0, nil, api.ErrUnknown}, {open(), 9, 1, nil, api.ErrUnknown},
		{counts(16, 9, 4, 9), 3, 2, nil, api.ErrAgain}, {counts(16, 9, 9, 9), 3, 6, nil, api.ErrAgain}, {counts(6, 9, 9, 9), 5, 1, nil, api.ErrAgain}, {open(), 1, 128, nil, api.OK},
	} {
		before := fmt.Sprint(x.l)
		l, e := pids.Charge(h, x.l, x.group, x.n)
		if e != x.e || !eq(l, x.want) && x.n != 128 {
			t.Error(i, l, e)
		}
		if x.n == 128 && (l[0].Now != 134 || l[0].Peak != 134) {
			t.Error(i, l)
		}
		for k := range l {
			l[k].Group = 99
		}
		if fmt.Sprint(x.l) != before {
			t.Error(i, "the argument was changed")
		}
	}
	full := counts(5, 3, 2, 0)
	full[2].Events = api.MaxValue
	for i, x := range []struct {
		l           []api.Count
		group, n    int
		at, id, was int
	}{
		{open(), 3, 1, -1, 0, 0}, {open(), 3, api.Max - 10, -1, 0, 0}, {open(), 3, api.Max - 2, 2, 3, 5}, {counts(6, 4, 3, 0), 3, 1, 2, 3, 5}, {counts(6, 4, 4, 0), 3, 1, 1, 2, 0}, {counts(6, 5, 4, 0), 3, 1, 0, 1, 1}, {counts(7, 5, 4, 0), 3, 1, -1, 0, 0}, {counts(7, 5, 4, 0), 3, 2, 2, 3, 5}, {counts(7, 5, 9, 0), 3, 2, 1, 2, 0}, {counts(7, 6, 9, 0), 3, 2, 0, 1, 1}, {counts(7, 6, 9, 0), 5, 1, 3, 5, 0}, {counts(6, 4, 3, 0), 3, 0, -1, 0, 0}, {counts(5, 4, 3, 0), 3, 0, 0, 1, 1}, {counts(5, 3, 1, 0), 2, -1, -1, 0, 0}, {counts(5, 2, 1, 0), 2, -1, 1, 2, 0}, {full, 3, 1, 2, 3, api.MaxValue - 1}, {counts(0, 0, 0, 0), 4, 1, -1, 0, 0},
	} {
		before := fmt.Sprint(x.l)
		l, id := pids.Refuse(h, x.l, x.group, x.n)
		want := slices.Clone(x.l)
		if x.at >= 0 {
			want[x.at].Events = x.was + 1
		}
		if id != x.id || !eq(l, want) {
			t.Error(i, l, id)
		}
		for k := range l {
			l[k].Group = 99
		}
		if fmt.Sprint(x.l) != before {
			t.Error(i, "the argument was changed")
		}
	}
	if l, id := pids.Refuse(h, bad, 3, 1000); l != nil || id != 0 {
		t.Error(l, id)
	}
}

func TestP10_4(t *testing.T) {
	h := sample()
	old := []api.Count{{Group: 9, Now: 3, Limit: 3, Peak: 3, Events: 3}, {Group: 3, Now: 77, Limit: 5, Peak: 2, Events: 8}, {Group: 3, Now: 3, Limit: 6, Peak: 6, Events: 6}, {Group: 1, Now: -4, Limit: -7, Peak: 1000, Events: -2}}
	want := []api.Count{{Group: 1, Now: 6, Limit: -7, Peak: 1000, Events: -2}, {Group: 2, Now: 4, Limit: api.Max, Peak: 4}, {Group: 3, Now: 3, Limit: 5, Peak: 3, Events: 8}, {Group: 5, Limit: api.Max}}
	if l := pids.Adjust(h, old); !eq(l, want) {
		t.Error(l)
	}
	if l := pids.Adjust(h, counts(1, 2, 3, 4)); !eq(l, counts(1, 2, 3, 4)) {
		t.Error(l)
	}
	h.Tasks[0].Group, h.Tasks[1].Group = 5, 5
	if l := pids.Adjust(h, counts(1, 2, 3, 1)); !pids.Check(h, l) || l[3] != (api.Count{Group: 5, Now: 2, Limit: 1, Peak: 2}) || l[2] != (api.Count{Group: 3, Now: 1, Limit: 3, Peak: 7, Events: 5}) {
		t.Error(l)
	}
	h.Next = 1
	if l := pids.Adjust(h, open()); l != nil {
		t.Error(l)
	}
}

func TestP10_5(t *testing.T) {
	h := sample()
	bad := open()
	bad[0].Now = 0
	unfit := sample()
	unfit.Tree.Nodes[3].Kind = api.KindThreaded
	unfit.Tree.Nodes[0].Control = 0
	unfit.Tree.Nodes[2].Control = api.CPU
	barred := sample()
	barred.Tree.Nodes[3].Control = api.Memory
	useless := sample()
	useless.Tree.Nodes = append(useless.Tree.Nodes, api.Node{ID: 6, Parent: 5, Name: "d"})
	useless.Tree.Nodes[3].Kind, useless.Tree.Next = api.KindThreaded, 7
	for i, x := range []struct {
		h           api.Hierarchy
		l           []api.Count
		group, user int
		e           api.Errno
		at          int // the index of the group with an event
	}{
		{h, open(), 3, 4, api.OK, 0}, {h, counts(7, 0, 0, 1), 5, 0, api.OK, 0}, {h, counts(7, 5, 4, 0), 3, api.MaxUser, api.OK, 0},
		{h, bad, 3, 4, api.ErrInvalid, 0}, {h, bad, 99, 4, api.ErrInvalid, 0}, {unfit, open(), 3, 4, api.ErrInvalid, 0}, {h, open(), 99, -1, api.ErrUnknown, 0}, {barred, counts(0, 0, 0, 0), 5, -1, api.ErrBusy, 0}, {useless, append(open(), api.Count{Group: 6}), 6, 0, api.ErrKind, 0}, {h, counts(0, 0, 0, 0), 5, -1, api.ErrInvalid, 0}, {h, open(), 5, api.MaxUser + 1, api.ErrInvalid, 0},
		{h, counts(6, 4, 4, 0), 3, 4, api.ErrAgain, 1}, {h, counts(6, 4, 3, 0), 3, 4, api.ErrAgain, 2}, {h, counts(6, 9, 9, 9), 5, 4, api.ErrAgain, 0}, {h, counts(5, 9, 9, 0), 5, 4, api.ErrAgain, 3},
	} {
		before := fmt.Sprint(x.h, x.l)
		n, l, id, e := pids.Spawn(x.h, x.l, x.group, x.user)
		var wantH api.Hierarchy
		var wantL []api.Count
		wantID := 0
		switch x.e {
		case api.OK:
			wantH, wantID, _ = member.Spawn(h, x.group, x.user)
			wantL, _ = pids.Charge(h, x.l, x.group, 1)
		case api.ErrAgain:
			wantL = slices.Clone(x.l)
			wantL[x.at].Events++
		}
		if e != x.e || id != wantID || !eq(n, wantH) || !eq(l, wantL) || e == api.OK && !pids.Check(n, l) {
			t.Error(i, n, l, id, e)
		}
		for k := range l {
			l[k].Group = 99
		}
		for k := range n.Tasks {
			n.Tasks[k].ID = 99
		}
		if fmt.Sprint(x.h, x.l) != before {
			t.Error(i, "an argument was changed")
		}
	}
	for i, x := range []struct {
		h    api.Hierarchy
		l    []api.Count
		task int
		e    api.Errno
		at   int
	}{
		{h, open(), 1, api.OK, 0}, {h, open(), 2, api.OK, 0}, {h, counts(7, 5, 0, 0), 5, api.OK, 0}, {h, bad, 1, api.ErrInvalid, 0}, {h, bad, 99, api.ErrInvalid, 0}, {h, counts(0, 0, 0, 0), 99, api.ErrUnknown, 0}, {h, counts(0, 0, 0, 0), 3, api.ErrUnknown, 0}, {h, counts(0, 0, 0, 0), 1, api.ErrAgain, 2}, {h, counts(6, 4, 4, 0), 2, api.ErrAgain, 1}, {h, counts(6, 5, 3, 0), 5, api.ErrAgain, 0},
	} {
		n, l, id, e := pids.Clone(x.h, x.l, x.task)
		var wantH api.Hierarchy
		var wantL []api.Count
		wantID := 0
		switch x.e {
		case api.OK:
			k, _ := member.Find(h, x.task)
			wantH, wantID, _ = member.Clone(h, x.task)
			wantL, _ = pids.Charge(h, x.l, k.Group, 1)
		case api.ErrAgain:
			wantL = slices.Clone(x.l)
			wantL[x.at].Events++
		}
		if e != x.e || id != wantID || !eq(n, wantH) || !eq(l, wantL) || e == api.OK && !pids.Check(n, l) {
			t.Error(i, n, l, id, e)
		}
	}
	full := crowd(128)
	if _, l, _, e := pids.Spawn(full, pids.New(full), 1, 0); e != api.ErrLimit || l != nil {
		t.Error(l, e)
	}
	if _, l, _, e := pids.Clone(full, pids.New(full), 1); e != api.ErrLimit || l != nil {
		t.Error(l, e)
	}
}

// TestConsequences forks, moves and exits at random: no fork brings a group above its limit, and the counts are sums.
func TestConsequences(t *testing.T) {
	r := rand.New(rand.NewSource(10))
	h := sample()
	l := counts(12, 7, 5, 6)
	forks, refused := 0, 0
	for i := 0; i < 5000; i++ {
		group := []int{1, 2, 3, 5}[r.Intn(4)]
		task := h.Tasks[r.Intn(len(h.Tasks))].ID
		switch r.Intn(5) {
		case 0, 1:
			n, k, _, e := pids.Spawn(h, l, group, 0)
			if r.Intn(2) == 0 {
				n, k, _, e = pids.Clone(h, l, task)
			}
			if e == api.ErrAgain {
				refused++
				l = k
			}
			if e != api.OK {
				break
			}
			forks++
			for j := range k {
				if k[j].Now > k[j].Limit && k[j].Now > l[j].Now {
					t.Fatal(l, k)
				}
			}
			h, l = n, k
		case 2:
			if n, e := member.Exit(h, task); e == api.OK && len(n.Tasks) > 0 {
				h = n
			}
		case 3:
			h, _ = member.Place(h, task, group)
		case 4:
			l, _ = pids.Limit(h, l, group, r.Intn(12))
		}
		l = pids.Adjust(h, l)
		if !pids.Check(h, l) {
			t.Fatal(h, l)
		}
		for _, c := range l {
			sum := len(member.Tasks(h, c.Group))
			for _, id := range tree.Children(h.Tree, c.Group) {
				below, _ := pids.Get(l, id)
				sum += below.Now
			}
			if sum != c.Now {
				t.Fatal(c, sum)
			}
		}
	}
	if forks < 200 || refused < 200 {
		t.Error(forks, refused)
	}
}
