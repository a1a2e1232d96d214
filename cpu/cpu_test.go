package cpu_test

import (
	"fmt"
	"math/rand"
	"slices"
	"testing"

	"groupcontrol/api"
	"groupcontrol/cpu"
	"groupcontrol/cpuset"
	"groupcontrol/fair"
	"groupcontrol/member"
	"groupcontrol/place"
	"groupcontrol/settings"
	"groupcontrol/throttle"
	"groupcontrol/tree"
	"groupcontrol/virtual"
)

func eq(a, b any) bool { return fmt.Sprint(a) == fmt.Sprint(b) }

// sample has /a (2), /a/b (3), /c (4); the tasks 1 and 5 are in /a/b, 2 in /a, 3 in /c, 4 in /.
func sample() api.Hierarchy {
	return api.Hierarchy{Next: 6, Tree: api.Tree{Next: 5, Nodes: []api.Node{{ID: 1}, {ID: 2, Parent: 1, Name: "a"}, {ID: 3, Parent: 2, Name: "b"}, {ID: 4, Parent: 1, Name: "c"}}}, Tasks: []api.Task{
		{ID: 1, Process: 1, Group: 3}, {ID: 2, Process: 2, Group: 2}, {ID: 3, Process: 3, Group: 4}, {ID: 4, Process: 4, Group: 1}, {ID: 5, Process: 5, Group: 3},
	}}
}

// configs has the weights 100, 200, 300, 400, a quota of 3 in 4 ticks at /a, and the processors 1 and 2 at /c.
func configs() []api.Config {
	l := settings.New(sample().Tree)
	for i := range l {
		l[i].Settings.Weight = 100 * (i + 1)
	}
	l[1].Settings.Quota, l[1].Settings.Period, l[1].Settings.Burst = 3, 4, 1
	l[3].Settings.Cpus = []int{1, 2}
	return l
}

var three = api.Machine{Domains: []int{0, 0, 1}}

func state() api.Processors {
	p, _ := cpu.New(sample(), configs(), three, 2)
	return p
}

func with(change func(*api.Processors)) api.Processors {
	p := state()
	change(&p)
	return p
}

var (
	badH = func() api.Hierarchy { h := sample(); h.Next = 1; return h }()
	badL = func() []api.Config { l := configs(); l[0].Settings.Weight = 0; return l }()
)

func TestP21_1New(t *testing.T) {
	for i, x := range []struct {
		h     api.Hierarchy
		l     []api.Config
		m     api.Machine
		slice int
		e     api.Errno
	}{
		{sample(), configs(), three, 2, api.OK}, {sample(), configs(), api.Machine{Domains: make([]int, 16)}, 1, api.OK}, {sample(), configs(), api.Machine{Domains: []int{7}}, 1000000, api.OK},
		{badH, configs(), three, 2, api.ErrInvalid}, {sample(), badL, three, 2, api.ErrInvalid}, {sample(), configs()[:3], three, 0, api.ErrInvalid}, {sample(), configs(), api.Machine{}, 0, api.ErrInvalid}, {sample(), configs(), api.Machine{Domains: make([]int, 17)}, 2, api.ErrInvalid}, {sample(), configs(), api.Machine{Domains: []int{0, -1}}, 2, api.ErrInvalid}, {sample(), configs(), three, 0, api.ErrRange}, {sample(), configs(), three, 1000001, api.ErrRange}, {sample(), configs(), three, -1, api.ErrRange},
	} {
		p, e := cpu.New(x.h, x.l, x.m, x.slice)
		var want api.Processors
		if x.e == api.OK {
			pools, _ := throttle.New(x.h.Tree, []int{api.Max, 3, api.Max, api.Max}, []int{0, 1, 0, 0}, x.slice, len(x.m.Domains))
			want = api.Processors{Machine: x.m, Branches: fair.New(x.h, []int{100, 200, 300, 400}), Pools: pools}
		}
		if e != x.e || !eq(p, want) || e == api.OK && !cpu.Check(x.h, p) {
			t.Error(i, p, e)
		}
	}
	m := api.Machine{Domains: []int{0, 1}}
	p, _ := cpu.New(sample(), configs(), m, 2)
	if p.Machine.Domains[0] = 9; m.Domains[0] != 0 {
		t.Error("memory is shared")
	}
}

func TestP21_1Check(t *testing.T) {
	last := func(pairs ...[2]int) func(*api.Processors) {
		return func(p *api.Processors) {
			for _, x := range pairs {
				p.Last = append(p.Last, api.Assignment{CPU: x[0], Task: x[1]})
			}
		}
	}
	for i, x := range []struct {
		h    api.Hierarchy
		p    api.Processors
		want bool
	}{
		{sample(), state(), true}, {badH, state(), false}, {sample(), api.Processors{}, false}, {member.New(), state(), false},
		{sample(), with(func(p *api.Processors) { p.Machine.Domains[1] = -1 }), false}, {sample(), with(func(p *api.Processors) { p.Machine.Domains = []int{0, 0} }), false}, {sample(), with(func(p *api.Processors) { p.Machine.Domains = nil }), false}, {sample(), with(func(p *api.Processors) { p.Machine.Domains = []int{9, 9, 9} }), true},
		{sample(), with(func(p *api.Processors) { p.Branches[0].Queue.Clock = -1 }), false}, {sample(), with(func(p *api.Processors) { p.Branches = nil }), false}, {sample(), with(func(p *api.Processors) { p.Pools[0].Left = 1 }), false}, {sample(), with(func(p *api.Processors) { p.Pools = nil }), false},
		{sample(), with(last([2]int{0, 5}, [2]int{2, 1})), true}, {sample(), with(last([2]int{0, 77})), true}, {sample(), with(last([2]int{0, api.MaxID})), true}, {sample(), with(last([2]int{0, api.MaxID + 1})), false}, {sample(), with(last([2]int{0, 0})), false}, {sample(), with(last([2]int{3, 1})), false}, {sample(), with(last([2]int{-1, 1})), false}, {sample(), with(last([2]int{2, 5}, [2]int{0, 1})), false}, {sample(), with(last([2]int{1, 5}, [2]int{1, 1})), false}, {sample(), with(last([2]int{1, 5}, [2]int{2, 5})), false},
		{sample(), with(func(p *api.Processors) { p.Tick = -1 }), false}, {sample(), with(func(p *api.Processors) { p.Tick = api.MaxValue }), true}, {sample(), with(func(p *api.Processors) { p.Tick = api.MaxValue + 1 }), false},
	} {
		if cpu.Check(x.h, x.p) != x.want {
			t.Error(i)
		}
	}
}

func TestP21_1Sync(t *testing.T) {
	p, ran := cpu.Run(sample(), configs(), state(), []int{0, 1, 2}, []int{1, 2, 3}, 1)
	if len(ran) != 1 {
		t.Fatal(ran)
	}
	p.Tick, p.Last = 77, append(p.Last[:1:1], api.Assignment{CPU: 2, Task: 9})
	p.Branches = append(p.Branches, api.Branch{Group: 99, Queue: api.Queue{Items: []api.Item{{ID: -4, Weight: 100, Active: true}, {ID: 4, Active: true}}}})
	before := fmt.Sprint(p)
	h := sample()
	h, _ = member.Exit(h, 2)
	h.Tree, _, _ = tree.Add(h.Tree, 1, "new")
	l := settings.Adjust(h.Tree, configs())
	l[2].Settings.Weight, l[3].Settings.Quota = 5, 50
	got, e := cpu.Sync(h, l, p, 2)
	pools, _ := throttle.Sync(h.Tree, p.Pools, []int{api.Max, 3, api.Max, 50, api.Max}, []int{0, 1, 0, 0, 0}, 2, 3)
	want := api.Processors{Machine: three, Branches: fair.Sync(h, p.Branches, []int{100, 200, 5, 400, 100}, []int{1, 3, 4}), Pools: pools, Tick: 77}
	for _, a := range p.Last {
		if a.Task != 9 && a.Task != 2 {
			want.Last = append(want.Last, a)
		}
	}
	if e != api.OK || !eq(got, want) || !cpu.Check(h, got) || got.Branches[0].Queue.Items[0].Active != true {
		t.Error(got, want, e)
	}
	got.Machine.Domains[0], got.Branches[0].Queue.Items[0].ID, got.Pools[0].Local[0] = 9, 99, 99
	for i := range got.Last {
		got.Last[i].Task = 99
	}
	if fmt.Sprint(p) != before {
		t.Error("memory is shared")
	}
	for i, x := range []struct {
		h     api.Hierarchy
		l     []api.Config
		p     api.Processors
		slice int
		e     api.Errno
	}{
		{sample(), configs(), api.Processors{Machine: three}, 2, api.OK}, {sample(), configs(), with(func(p *api.Processors) { p.Tick = -5; p.Pools[1].Left = -1 }), 2, api.OK}, {badH, configs(), state(), 2, api.ErrInvalid}, {sample(), badL, state(), 0, api.ErrInvalid}, {sample(), configs(), api.Processors{}, 0, api.ErrInvalid}, {sample(), configs(), state(), 0, api.ErrRange}, {sample(), configs(), state(), 1000001, api.ErrRange},
	} {
		got, e := cpu.Sync(x.h, x.l, x.p, x.slice)
		if e != x.e || e != api.OK && !eq(got, api.Processors{}) || e == api.OK && got.Tick != x.p.Tick {
			t.Error(i, got, e)
		}
	}
}

func TestP21_2(t *testing.T) {
	p := with(func(p *api.Processors) { p.Last = []api.Assignment{{CPU: 0, Task: 3}, {CPU: 2, Task: 5}} })
	want := []api.Want{{Task: 1, Cpus: []int{0, 1, 2}, Last: -1}, {Task: 3, Cpus: []int{1, 2}, Last: 0}, {Task: 5, Cpus: []int{0, 1, 2}, Last: 2}}
	l := cpu.Wants(sample(), configs(), p, []int{0, 1, 2}, []int{5, 3, 9, 1, 3, -1})
	if !eq(l, want) {
		t.Error(l)
	}
	if l[0].Cpus[0] = 99; l[2].Cpus[0] != 0 {
		t.Error("memory is shared")
	}
	if l := cpu.Wants(sample(), configs(), p, []int{0, 2}, []int{3, 4}); !eq(l, []api.Want{{Task: 3, Cpus: []int{2}, Last: 0}, {Task: 4, Cpus: []int{0, 2}, Last: -1}}) {
		t.Error(l)
	}
	if l := cpu.Wants(sample(), configs(), p, []int{0}, nil); len(l) != 0 {
		t.Error(l)
	}
	for i, x := range []struct {
		h      api.Hierarchy
		l      []api.Config
		p      api.Processors
		online []int
	}{{badH, configs(), p, []int{0}}, {sample(), badL, p, []int{0}}, {sample(), configs(), api.Processors{}, []int{0}}, {sample(), configs(), p, nil}, {sample(), configs(), p, []int{3}}, {sample(), configs(), p, []int{1, 0}}, {sample(), configs(), p, []int{-1}}} {
		if l := cpu.Wants(x.h, x.l, x.p, x.online, []int{1, 2, 3}); l != nil {
			t.Error(i, l)
		}
		if q, a, e := cpu.Tick(x.h, x.l, x.p, x.online, []int{1, 2, 3}); !eq(q, api.Processors{}) || a != nil || e != api.ErrInvalid {
			t.Error(i, e)
		}
	}
}

// tick follows the promise word by word.
func tick(h api.Hierarchy, l []api.Config, p api.Processors, online, runnable []int) (api.Processors, []api.Assignment) {
	var weights []int
	for _, c := range l {
		weights = append(weights, c.Settings.Weight)
	}
	group := func(task int) int { k, _ := member.Find(h, task); return k.Group }
	wants := cpu.Wants(h, l, p, online, runnable)
	pools := p.Pools
	for c := range p.Machine.Domains {
		pools = throttle.Idle(h.Tree, pools, c)
	}
	var free []int
	for _, w := range wants {
		if _, blocked := throttle.Blocked(h.Tree, pools, group(w.Task), w.Cpus[0]); !blocked {
			free = append(free, w.Task)
		}
	}
	branches := fair.Sync(h, p.Branches, weights, free)
	for _, w := range wants {
		if !slices.Contains(free, w.Task) {
			pools, _ = throttle.Spend(h.Tree, pools, group(w.Task), w.Cpus[0])
		}
	}
	var chosen []api.Want
	for {
		var eligible []int
		for _, w := range wants {
			_, blocked := throttle.Blocked(h.Tree, pools, group(w.Task), w.Cpus[0])
			if !slices.ContainsFunc(chosen, func(c api.Want) bool { return c.Task == w.Task }) && place.Accept(p.Machine, chosen, w) && !blocked {
				eligible = append(eligible, w.Task)
			}
		}
		task, ok := fair.Choose(h, branches, eligible)
		if !ok {
			break
		}
		next, e := fair.Serve(h, branches, task)
		if e != api.OK {
			break
		}
		branches = next
		w := wants[slices.IndexFunc(wants, func(w api.Want) bool { return w.Task == task })]
		pools, _ = throttle.Spend(h.Tree, pools, group(task), w.Cpus[0])
		pools = throttle.Idle(h.Tree, pools, w.Cpus[0])
		chosen = append(chosen, w)
		slices.SortFunc(chosen, func(a, b api.Want) int { return a.Task - b.Task })
	}
	all, _ := place.Match(p.Machine, chosen)
	var due []int
	for _, c := range l {
		if (p.Tick+1)%c.Settings.Period == 0 {
			due = append(due, c.Group)
		}
	}
	return api.Processors{Machine: p.Machine, Branches: branches, Pools: throttle.Refill(h.Tree, pools, due), Last: all, Tick: p.Tick + 1}, all
}

func TestP21_3(t *testing.T) {
	p, l := state(), configs()
	before := fmt.Sprint(p, l)
	for range 3 {
		q, a, e := cpu.Tick(sample(), l, p, []int{0, 1, 2}, []int{1, 2, 3, 4, 5})
		want, all := tick(sample(), l, p, []int{0, 1, 2}, []int{1, 2, 3, 4, 5})
		if e != api.OK || !eq(q, want) || !eq(a, all) || len(a) == 0 {
			t.Fatal(q, a, e)
		}
		a[0].Task, q.Machine.Domains[0], q.Branches[0].Queue.Items[0].ID, q.Pools[0].Local[0] = 99, 99, 99, 99
		if q.Last[0].Task == 99 || fmt.Sprint(p, l) != before {
			t.Fatal("memory is shared")
		}
	}
	late := with(func(p *api.Processors) { p.Tick = api.MaxValue })
	if q, a, e := cpu.Tick(sample(), l, late, []int{0}, []int{1}); !eq(q, api.Processors{}) || a != nil || e != api.ErrLimit {
		t.Error(q, a, e)
	}
	late.Tick--
	if q, _, e := cpu.Tick(sample(), l, late, []int{0}, []int{1}); q.Tick != api.MaxValue || e != api.OK {
		t.Error(q, e)
	}
	if _, _, e := cpu.Tick(sample(), l, with(func(p *api.Processors) { p.Tick = api.MaxValue }), nil, []int{1}); e != api.ErrInvalid {
		t.Error(e)
	}
	// A queue that can pay no more ends the choice.
	full := state()
	full.Branches[0].Queue.Clock = api.MaxV - 5
	full.Branches[0].Queue.Items[0].V = api.MaxV - 5
	q, a, e := cpu.Tick(sample(), l, full, []int{0, 1}, []int{4})
	if len(a) != 0 || e != api.OK || q.Tick != 1 {
		t.Error(q, a, e)
	}
	// Without tokens, nothing runs, and the pool knows that it is empty.
	l[1].Settings.Period, l[1].Settings.Quota, l[1].Settings.Burst = 100, 1, 0
	p, _ = cpu.New(sample(), l, three, 1)
	p, a, _ = cpu.Tick(sample(), l, p, []int{0, 1, 2}, []int{1, 2, 5})
	if len(a) != 1 || p.Pools[1].Empty {
		t.Error(p, a)
	}
	p, a, _ = cpu.Tick(sample(), l, p, []int{0, 1, 2}, []int{1, 2, 5})
	if len(a) != 0 || !p.Pools[1].Empty || p.Pools[1].Throttled != 1 || p.Branches[0].Queue.Items[1].Active {
		t.Error(p, a)
	}
}

// random returns a hierarchy, settings and a machine.
func random(r *rand.Rand) (api.Hierarchy, []api.Config, api.Machine) {
	h := member.New()
	for range r.Intn(6) {
		if t, _, e := tree.Add(h.Tree, h.Tree.Nodes[r.Intn(len(h.Tree.Nodes))].ID, string(rune('a'+r.Intn(4)))); e == api.OK {
			h.Tree = t
		}
	}
	for range r.Intn(8) {
		h, _, _ = member.Spawn(h, h.Tree.Nodes[r.Intn(len(h.Tree.Nodes))].ID, 0)
	}
	m := api.Machine{Domains: make([]int, 1+r.Intn(4))}
	for i := range m.Domains {
		m.Domains[i] = r.Intn(2)
	}
	return h, adjust(r, h.Tree, settings.New(h.Tree), len(m.Domains)), m
}

// adjust changes settings at random.
func adjust(r *rand.Rand, t api.Tree, l []api.Config, cpus int) []api.Config {
	l = settings.Adjust(t, l)
	for i := range l {
		s := &l[i].Settings
		s.Weight = 1 + r.Intn(1000)
		s.Period = 1 + r.Intn(6)
		s.Quota, s.Burst, s.Partition, s.Cpus = api.Max, 0, r.Intn(2), nil
		if r.Intn(3) == 0 {
			s.Quota = 1 + r.Intn(8)
			s.Burst = r.Intn(s.Quota + 1)
		}
		for c := range cpus {
			if r.Intn(3) == 0 {
				s.Cpus = append(s.Cpus, c)
			}
		}
	}
	return l
}

// TestConsequences compares with tick, and checks what chapter 21 says about the tasks that run.
func TestConsequences(t *testing.T) {
	r := rand.New(rand.NewSource(22))
	ran := 0
	for range 150 {
		h, l, m := random(r)
		p, e := cpu.New(h, l, m, 1+r.Intn(3))
		if e != api.OK {
			t.Fatal(e)
		}
		for range 12 {
			var online, runnable []int
			for c := range m.Domains {
				if r.Intn(4) > 0 {
					online = append(online, c)
				}
			}
			for _, k := range h.Tasks {
				if r.Intn(4) > 0 {
					runnable = append(runnable, k.ID)
				}
			}
			if len(online) == 0 {
				online = []int{0}
			}
			want, all := tick(h, l, p, online, runnable)
			wants := cpu.Wants(h, l, p, online, runnable)
			q, a, e := cpu.Tick(h, l, p, online, runnable)
			if e != api.OK || !eq(q, want) || !eq(a, all) || !cpu.Check(h, q) {
				t.Fatal(q, want, e)
			}
			limited := false
			for _, x := range a {
				k, _ := member.Find(h, x.Task)
				if !slices.Contains(cpuset.Cpus(h.Tree, l, online, k.Group), x.CPU) || !slices.Contains(runnable, x.Task) {
					t.Fatal(x, online)
				}
			}
			for _, q := range p.Pools {
				limited = limited || q.Quota != api.Max
			}
			if !limited && len(a) != len(place.Greatest(m, wants)) {
				t.Fatal("a processor is idle", a, wants)
			}
			p = q
			ran += len(a)
			if r.Intn(6) == 0 { // pools keep their quotas until Sync
				l = adjust(r, h.Tree, l, len(m.Domains))
			}
			if r.Intn(6) == 0 {
				p, _ = cpu.Sync(h, l, p, p.Pools[0].Slice)
			}
		}
	}
	if ran < 1000 {
		t.Error(ran)
	}
}

// TestShares: for one processor, what two items that are always active pay differs by at most the sum of their costs.
func TestShares(t *testing.T) {
	r := rand.New(rand.NewSource(23))
	for range 40 {
		h, l, _ := random(r)
		var all []int
		for i := range l {
			l[i].Settings.Quota, l[i].Settings.Burst = api.Max, 0
		}
		for _, k := range h.Tasks {
			all = append(all, k.ID)
		}
		p, _ := cpu.New(h, l, api.Machine{Domains: []int{0}}, 5)
		p, _ = cpu.Run(h, l, p, []int{0}, all, 1)
		q, ran := cpu.Run(h, l, p, []int{0}, all, r.Intn(80))
		for _, b := range p.Branches {
			for _, x := range b.Queue.Items {
				for _, y := range b.Queue.Items {
					if d := fair.Gain(p.Branches, q.Branches, b.Group, x.ID) - fair.Gain(p.Branches, q.Branches, b.Group, y.ID); x.Active && y.Active && d > virtual.Cost(x.Weight)+virtual.Cost(y.Weight) {
						t.Fatal(b, x, y, d)
					}
				}
			}
		}
		if len(all) > 0 && cpu.Service(ran, h, 1) != len(ran) {
			t.Fatal("a processor is idle")
		}
	}
}

func TestP21_4(t *testing.T) {
	h, l, p := sample(), configs(), state()
	all := []int{1, 2, 3, 4, 5}
	for _, n := range []int{-3, 0, 1, 5} {
		want := p
		var ran [][]api.Assignment
		for i := 0; i < n; i++ {
			var a []api.Assignment
			want, a, _ = cpu.Tick(h, l, want, []int{0, 1, 2}, all)
			ran = append(ran, a)
		}
		if q, got := cpu.Run(h, l, p, []int{0, 1, 2}, all, n); !eq(q, want) || !eq(got, ran) || len(got) != max(n, 0) {
			t.Error(n, q, got)
		}
	}
	q, _ := cpu.Run(h, l, p, []int{0}, all, 0)
	if q.Pools[0].Local[0] = 99; p.Pools[0].Local[0] != 0 {
		t.Error("memory is shared")
	}
	if q, ran := cpu.Run(h, badL, p, []int{0}, all, 5); !eq(q, p) || ran != nil {
		t.Error(q, ran)
	}
	if q, ran := cpu.Run(badH, l, p, []int{0}, all, 5); !eq(q, api.Processors{}) || ran != nil {
		t.Error(q, ran)
	}
	late := with(func(p *api.Processors) { p.Tick = api.MaxValue - 2 })
	if q, ran := cpu.Run(h, l, late, []int{0}, all, 5); q.Tick != api.MaxValue || len(ran) != 2 {
		t.Error(q, ran)
	}
	one := member.New()
	small, _ := cpu.New(one, settings.New(one.Tree), api.Machine{Domains: []int{0}}, 1)
	if q, ran := cpu.Run(one, settings.New(one.Tree), small, []int{0}, nil, api.MaxTicks+9); q.Tick != api.MaxTicks || len(ran) != api.MaxTicks {
		t.Error(q.Tick, len(ran))
	}
	ran := [][]api.Assignment{{{CPU: 0, Task: 1}, {CPU: 1, Task: 3}}, nil, {{CPU: 2, Task: 1}, {CPU: 0, Task: 2}, {CPU: 1, Task: 9}}}
	for group, want := range map[int]int{1: 4, 2: 3, 3: 2, 4: 1, 5: 0, 0: 0} {
		if n := cpu.Service(ran, h, group); n != want {
			t.Error(group, n)
		}
		if n := cpu.Service(ran, badH, group); n != 0 {
			t.Error(group, n)
		}
	}
}

// TestExample: a group with one task and a great weight beside one with three tasks and a small weight, on two processors.
func TestExample(t *testing.T) {
	h := api.Hierarchy{Next: 5, Tree: api.Tree{Next: 4, Nodes: []api.Node{{ID: 1}, {ID: 2, Parent: 1, Name: "a"}, {ID: 3, Parent: 1, Name: "b"}}}, Tasks: []api.Task{{ID: 1, Process: 1, Group: 2}, {ID: 2, Process: 2, Group: 3}, {ID: 3, Process: 3, Group: 3}, {ID: 4, Process: 4, Group: 3}}}
	l := settings.New(h.Tree)
	l[1].Settings.Weight, l[2].Settings.Weight = 10000, 1
	m := api.Machine{Domains: []int{0, 0}}
	p, _ := cpu.New(h, l, m, 1)
	_, ran := cpu.Run(h, l, p, []int{0, 1}, []int{1, 2, 3, 4}, 50)
	for i := range ran {
		if cpu.Service(ran[i:i+1], h, 2) != 1 || cpu.Service(ran[i:i+1], h, 3) != 1 {
			t.Error(i, ran[i])
		}
	}
}
