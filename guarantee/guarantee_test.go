package guarantee_test

import (
	"fmt"
	"math/rand"
	"slices"
	"testing"

	"groupcontrol/api"
	"groupcontrol/console"
	"groupcontrol/copies"
	"groupcontrol/delegate"
	"groupcontrol/estate"
	"groupcontrol/event"
	"groupcontrol/guarantee"
	"groupcontrol/machine"
	"groupcontrol/paging"
	"groupcontrol/settings"
)

func eq(a, b any) bool { return fmt.Sprint(a) == fmt.Sprint(b) }

// base has /a (2, of the user 7, weight 100), /b (3, weight 300) with /b/c (4) and /b/d (5), and /a/x (6). The process 1 of the user 7 is in /a, 2 in /b/c, 3 in /b/d, 4 in /, 5 of the user 7 in /a/x.
func base() api.System {
	y, e := estate.New(api.Setup{Machine: api.Machine{Domains: []int{0}}, Online: []int{0}, Slice: 3, Pages: 200, SwapSize: 50, Period: 10})
	must := func(z api.System, f api.Errno) {
		if f != api.OK {
			panic(f)
		}
		y = z
	}
	must(y, e)
	must(estate.Control(y, 0, 1, api.AllControllers, 0))
	for _, path := range []string{"/a", "/b", "/b/c", "/b/d", "/a/x"} {
		must(console.Make(y, 0, path))
	}
	must(estate.Grant(y, 0, 2, 7))
	set := func(id int, change func(*api.Settings)) {
		s := settings.Default()
		change(&s)
		must(estate.Set(y, 0, id, s))
	}
	set(2, func(s *api.Settings) { s.PidsMax, s.Memory.Min = 4, 30 })
	set(3, func(s *api.Settings) {
		s.Weight, s.Quota, s.PidsMax = 300, 700, 20
		s.Memory = api.MemorySettings{Min: 40, Low: 60, Max: 90, High: api.Max, SwapMax: api.Max}
	})
	set(4, func(s *api.Settings) { s.Quota, s.Memory.Min, s.Memory.Low, s.Memory.Max = 500, 30, 90, 120 })
	set(5, func(s *api.Settings) { s.Weight, s.PidsMax, s.Memory.Min, s.Memory.Max = 7, 3, 50, 70 })
	for _, x := range [][2]int{{2, 7}, {4, 0}, {5, 0}, {1, 0}, {6, 7}} {
		z, _, e := estate.Spawn(y, x[0], x[1])
		must(z, e)
	}
	for process, n := range []int{0, 40, 50, 20, 5, 15} {
		if n > 0 {
			z, _, e := paging.Alloc(y, process, n)
			must(z, e)
		}
	}
	y.Tallies, _ = event.Add(y.Hierarchy.Tree, y.Tallies, 5, api.EventMax, 4)
	return y
}

var (
	wrong = func() api.System { y := base(); y.Now = -1; return y }()
	max   = api.Max
)

func TestP44_1(t *testing.T) {
	y := base()
	// The settings of /b/c and /b/d are more than those of /b: 30 * 40 / 80 and 20 * 40 / 80 pages, and 50 * 60 / 90 are granted.
	a, b := api.Grant{Group: 2, Weight: 100, Siblings: 400, Quota: max, Pids: 4, Min: 30, Most: 200}, api.Grant{Group: 3, Weight: 300, Siblings: 400, Quota: 700, Pids: 20, Min: 40, Low: 60, Most: 90}
	c, d := api.Grant{Group: 4, Weight: 100, Siblings: 107, Quota: 500, Pids: 20, Min: 15, Low: 33, Most: 90}, api.Grant{Group: 5, Weight: 7, Siblings: 107, Quota: 700, Pids: 3, Min: 10, Most: 70}
	x := api.Grant{Group: 6, Weight: 100, Siblings: 100, Quota: max, Pids: 4, Most: 200}
	for id, want := range map[int][]api.Grant{1: nil, 2: {a, b, c, d}, 3: {a, b, x}, 4: {a, b, c, d, x}, 6: {a, b, c, d, x}} {
		if l, e := guarantee.Grants(y, id); !eq(l, want) || e != api.OK {
			t.Error(id, l, e)
		}
	}
	for i, k := range []struct {
		y  api.System
		id int
		e  api.Errno
	}{{wrong, 9, api.ErrInvalid}, {y, 9, api.ErrUnknown}, {y, 0, api.ErrUnknown}} {
		l, e := guarantee.Grants(k.y, k.id)
		v, f := guarantee.Outside(k.y, k.id)
		if l != nil || e != k.e || !eq(v, api.View{}) || f != k.e {
			t.Error(i, e, f)
		}
	}
}

func TestP44_2(t *testing.T) {
	y := base()
	y, _ = estate.Freeze(y, 0, 2, true)
	y, _ = estate.Freeze(y, 0, 5, true)
	node := func(i int) api.Node { return y.Hierarchy.Tree.Nodes[i] }
	bare := func(i int) api.Node { n := node(i); n.Control = 0; return n }
	s := func(i int) api.Settings { return y.Configs[i].Settings }
	k := y.Hierarchy.Tasks
	for id, want := range map[int]api.View{
		1: {Nodes: []api.Node{bare(0)}, Settings: []api.Settings{s(0)}, Wants: []bool{false}},
		2: {Nodes: []api.Node{node(0), bare(1), node(2), node(3), node(4)}, Settings: []api.Settings{s(0), s(1), s(2), s(3), s(4)}, Wants: []bool{false, false, false, false, true}, Tasks: []api.Task{k[1], k[2], k[3]}},
		3: {Nodes: []api.Node{node(0), node(1), bare(2), node(5)}, Settings: []api.Settings{s(0), s(1), s(2), s(5)}, Wants: []bool{false, true, false, false}, Tasks: []api.Task{k[0], k[3], k[4]}},
		5: {Nodes: y.Hierarchy.Tree.Nodes, Settings: []api.Settings{s(0), s(1), s(2), s(3), s(4), s(5)}, Wants: []bool{false, true, false, false, false, false}, Tasks: []api.Task{k[0], k[1], k[3], k[4]}},
	} {
		before := fmt.Sprint(y)
		v, e := guarantee.Outside(y, id)
		if !eq(v, want) || e != api.OK {
			t.Error(id, v, e)
		}
		v.Nodes[0].ID = 99
		for i := range v.Tasks {
			v.Tasks[i].ID = 99
		}
		if fmt.Sprint(y) != before {
			t.Error("memory is shared")
		}
	}
	odd := copies.System(y)
	odd.Hierarchy.Tree.Nodes[1].Control = api.CPU
	if v, _ := guarantee.Outside(odd, 2); v.Nodes[1].Control != 0 {
		t.Error(v.Nodes)
	}
	view := func() api.View { v, _ := guarantee.Outside(y, 2); return v }
	for i, change := range []func(v *api.View){
		func(v *api.View) { v.Nodes[2].Owner = 1 }, func(v *api.View) { v.Nodes = v.Nodes[:4] }, func(v *api.View) { v.Settings[2].Weight++ }, func(v *api.View) { v.Settings[2].Cpus = []int{1} }, func(v *api.View) { v.Settings = v.Settings[:4] }, func(v *api.View) { v.Wants[0] = true }, func(v *api.View) { v.Wants = nil }, func(v *api.View) { v.Tasks[0].User = 5 }, func(v *api.View) { v.Tasks = v.Tasks[1:] },
	} {
		v := view()
		change(&v)
		if guarantee.Same(v, view()) || guarantee.Same(view(), v) {
			t.Error(i)
		}
	}
	empty := api.View{Nodes: []api.Node{}, Settings: []api.Settings{}, Wants: []bool{}, Tasks: []api.Task{}}
	if !guarantee.Same(view(), view()) || !guarantee.Same(empty, api.View{}) {
		t.Error("equal views")
	}
}

func TestP44_3(t *testing.T) {
	y := base()
	// shrunk takes pages of a process away.
	shrunk := func(process, n int) api.System {
		z, e := paging.Free(y, process, n)
		if e != api.OK {
			t.Fatal(e)
		}
		return z
	}
	grown, _, _ := paging.Alloc(y, 2, 5)
	frozen, _ := estate.Freeze(y, 0, 2, true)
	other, _ := estate.Freeze(y, 0, 5, true)
	made, _ := console.Make(y, 7, "/a/new")
	gone, _ := estate.Remove(func() api.System { z, _ := estate.Exit(y, 5); return z }(), 0, 6)
	for i, x := range []struct {
		y, z api.System
		id   int
		want bool
	}{
		{y, y, 2, true}, {y, y, 1, true}, {y, wrong, 2, false}, {wrong, y, 2, false}, {wrong, wrong, 2, false}, {y, y, 9, false}, {y, gone, 6, false}, {gone, y, 6, false}, {y, grown, 2, true}, {y, frozen, 2, true}, {y, other, 2, false}, {y, made, 2, true}, {y, made, 6, false}, {y, gone, 2, true},
		// /b may fall to 40 - 1, /b/c to 15 - 2 and /b/d to 10 - 2, /a to 30 - 1 (with the 15 pages of /a/x).
		{y, shrunk(2, 37), 2, false}, {y, shrunk(2, 30), 2, true}, {y, shrunk(2, 31), 2, true}, {y, shrunk(2, 32), 2, false}, {y, shrunk(3, 12), 2, true}, {y, shrunk(3, 13), 2, false}, {y, shrunk(2, 38), 4, true}, {y, shrunk(3, 13), 4, false}, {y, shrunk(3, 20), 3, true}, {y, shrunk(1, 26), 3, true}, {y, shrunk(1, 27), 3, false}, {y, shrunk(1, 40), 2, true}, {y, shrunk(1, 40), 6, true}, {y, shrunk(4, 5), 2, true}, {y, shrunk(5, 15), 3, true},
	} {
		if guarantee.Keeps(x.y, x.z, x.id) != x.want {
			t.Error(i)
		}
	}
}

func TestP44_4(t *testing.T) {
	y := base()
	over := copies.System(y)
	over.Configs[3].Settings.Memory.Max, over.Configs[2].Settings.Memory.Max = 49, 70
	over.Configs[1].Settings.PidsMax, over.Counts[1].Limit = 1, 1
	small := copies.System(y)
	small.Setup.Pages = 129
	equal := copies.System(y)
	equal.Setup.Pages, equal.Configs[1].Settings.PidsMax, equal.Counts[1].Limit = 130, 2, 2
	for i, x := range []struct {
		y    api.System
		want []int
		e    api.Errno
	}{{y, nil, api.OK}, {over, []int{2, 4}, api.OK}, {small, []int{1}, api.OK}, {equal, nil, api.OK}, {wrong, nil, api.ErrInvalid}} {
		if l, e := guarantee.Exceeded(x.y); !eq(l, x.want) || e != x.e {
			t.Error(i, l, e)
		}
	}
	if !guarantee.Sums(y) || guarantee.Sums(wrong) || guarantee.Sums(api.System{}) {
		t.Error("Sums")
	}
}

// TestConsequences: what a user other than 0 does leaves the view from outside of each group the same that contains all groups that the user may enter, and in which the user has not all rights.
func TestConsequences(t *testing.T) {
	r := rand.New(rand.NewSource(46))
	y := base()
	paths := []string{"/a", "/a/x", "/a/y", "/a/x/z", "/b", "/b/c", "/"}
	list := []string{"cgroup.procs", "cgroup.threads", "cgroup.subtree_control", "cgroup.type", "cgroup.freeze", "pids.max", "cpu.weight", "memory.max", "memory.min", "cpuset.cpus"}
	texts := []string{"1", "2", "5", "0", "+cpu +pids", "-cpu", "+memory", "threaded", "max", "9"}
	done := 0
	for i := 0; i < 1200; i++ {
		path := paths[r.Intn(len(paths))]
		var z api.System
		var e api.Errno
		switch r.Intn(6) {
		case 0:
			z, e = console.Make(y, 7, path)
		case 1:
			z, e = console.Erase(y, 7, path)
		default:
			z, e = console.Write(y, 7, path, list[r.Intn(len(list))], texts[r.Intn(len(texts))])
		}
		if e != api.OK {
			continue
		}
		done++
		a, _ := guarantee.Outside(y, 2)
		b, _ := guarantee.Outside(z, 2)
		before, _ := guarantee.Grants(y, 2)
		after, _ := guarantee.Grants(z, 2)
		if !guarantee.Same(a, b) || !guarantee.Keeps(y, z, 2) || !guarantee.Sums(z) || !slices.Equal(before[1:], after[1:]) {
			t.Fatal(a, b)
		}
		if y = z; !slices.Contains(delegate.Reach(y.Hierarchy.Tree, 7), 2) {
			t.Fatal("reach")
		}
	}
	if done < 50 {
		t.Error(done)
	}
}

// TestOthersTakeNothing: on a way where nothing is overcommitted, no group falls below its Min by what others do.
func TestOthersTakeNothing(t *testing.T) {
	programs := []api.Program{{Steps: []api.Step{{Kind: api.StepAlloc, N: 25}, {Kind: api.StepAgain}}}, {Steps: []api.Step{{Kind: api.StepCompute, N: 5}, {Kind: api.StepAgain}}}}
	y := base()
	w, e := machine.New(y.Setup, programs)
	if e != api.OK {
		t.Fatal(e)
	}
	w.System = y
	for _, process := range []int{2, 3} {
		w.System, _ = paging.Adjust(w.System, process, -1000) // a kill would take pages, too
	}
	for range 3 {
		if w, _, e = machine.Spawn(w, 6, 7, 0); e == api.ErrAgain {
			break
		}
	}
	w, _, e = machine.Run(w, 60)
	if n, _ := machine.Usage(w, 3); e != api.OK || n < 40 || !guarantee.Sums(w.System) {
		t.Error(n, e)
	}
	if l, e := guarantee.Exceeded(w.System); len(l) != 0 || e != api.OK {
		t.Error(l, e)
	}
}
