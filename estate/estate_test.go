package estate_test

import (
	"fmt"
	"math/rand"
	"slices"
	"testing"

	"groupcontrol/api"
	"groupcontrol/copies"
	"groupcontrol/counter"
	"groupcontrol/cpu"
	"groupcontrol/delegate"
	"groupcontrol/device"
	"groupcontrol/estate"
	"groupcontrol/event"
	"groupcontrol/freeze"
	"groupcontrol/limit"
	"groupcontrol/member"
	"groupcontrol/pids"
	"groupcontrol/pressure"
	"groupcontrol/private"
	"groupcontrol/settings"
	"groupcontrol/shared"
	"groupcontrol/swap"
	"groupcontrol/tree"
)

func eq(a, b any) bool { return fmt.Sprint(a) == fmt.Sprint(b) }

func setup() api.Setup {
	c := api.DeviceConfig{Model: api.Model{ReadPage: 10}, Speed: 10}
	return api.Setup{Machine: api.Machine{Domains: []int{0, 0}}, Online: []int{0, 1}, Slice: 3, Pages: 100, SwapSize: 50, Period: 10, Devices: []api.DeviceConfig{c, {Speed: 5}}}
}

// base has /a (2, of the user 7), /a/b (3), /c (4) and /a/b/e (5). The process 1 (with the thread 2) of the user 7 is in /a/b, the process 3 in /c, the process 4 in /.
// There are an object, private pages, an adjustment, a wanted group, events, and requests at the first device.
func base() api.System {
	y, e := estate.New(setup())
	must := func(z api.System, f api.Errno) {
		if f != api.OK {
			panic(f)
		}
		y = z
	}
	must(y, e)
	must(estate.Control(y, 0, 1, api.AllControllers, 0))
	for _, x := range []struct {
		parent int
		name   string
	}{{1, "a"}, {2, "b"}, {1, "c"}, {3, "e"}} {
		z, _, e := estate.Create(y, 0, x.parent, x.name)
		must(z, e)
	}
	must(estate.Grant(y, 0, 2, 7))
	for _, x := range [][2]int{{3, 7}, {0, 0}, {4, 0}, {1, 0}} {
		if x[0] == 0 {
			z, _, e := estate.Clone(y, 1)
			must(z, e)
			continue
		}
		z, _, e := estate.Spawn(y, x[0], x[1])
		must(z, e)
	}
	y.Objects = []api.Object{{ID: 1, Size: 20, Parts: []api.Charge{{Group: 3, Own: 4}, {Group: 4, Own: 6}}}, {ID: 3, Size: 9, Parts: []api.Charge{{Group: 5, Own: 1}}}}
	y.Residents = []api.Resident{{Process: 1, Group: 3, Anon: 10, Swap: 2}, {Process: 1, Group: 5, Anon: 3}, {Process: 3, Group: 4, Anon: 5, Swap: 1}}
	y.Stock.Holdings = []api.Holding{{Group: 3, File: 4, Anon: 10, Swap: 2}, {Group: 4, File: 6, Anon: 5, Swap: 1}, {Group: 5, File: 1, Anon: 3}}
	y.Adjusts = []api.Adjustment{{Process: 1, Value: -5}, {Process: 3, Value: 1000}}
	y.Freezer, _ = freeze.Set(y.Hierarchy, y.Freezer, 4, true)
	y.Tallies, _ = event.Add(y.Hierarchy.Tree, y.Tallies, 5, api.EventKill, 3)
	for _, r := range []api.Request{{Task: 1, Group: 3, Pages: 1}, {Task: 2, Group: 5, Pages: 1}, {Task: 3, Group: 4, Pages: 1}} {
		y.Devices[0], e = device.Submit(y.Hierarchy.Tree, y.Devices[0], r)
		must(y, e)
	}
	return y
}

func with(change func(*api.System)) api.System {
	y := base()
	change(&y)
	return y
}

var wrong = with(func(y *api.System) { y.Now = 1 })

// scribble changes all that a system refers to.
func scribble(y api.System) {
	for k := range y.Setup.Online {
		y.Setup.Online[k] = 99
	}
	for k := range y.Setup.Devices {
		y.Setup.Devices[k].Speed = 99
	}
	for k := range y.Setup.Machine.Domains {
		y.Setup.Machine.Domains[k] = 99
	}
	for k := range y.Hierarchy.Tree.Nodes {
		y.Hierarchy.Tree.Nodes[k].ID = 99
	}
	for k := range y.Hierarchy.Tasks {
		y.Hierarchy.Tasks[k].ID = 99
	}
	for k := range y.Configs {
		y.Configs[k].Group = 99
		for j := range y.Configs[k].Settings.Devices {
			y.Configs[k].Settings.Devices[j].Device = 99
		}
	}
	for k := range y.Counts {
		y.Counts[k].Group = 99
	}
	for k := range y.Stock.Holdings {
		y.Stock.Holdings[k].Group = 99
	}
	for k := range y.Objects {
		y.Objects[k].ID = 99
		for j := range y.Objects[k].Parts {
			y.Objects[k].Parts[j].Group = 99
		}
	}
	for k := range y.Residents {
		y.Residents[k].Group = 99
	}
	for k := range y.Adjusts {
		y.Adjusts[k].Value = 99
	}
	for k := range y.Freezer.Frosts {
		y.Freezer.Frosts[k].Group = 99
	}
	for k := range y.Tallies {
		y.Tallies[k].Group = 99
	}
	for k := range y.Gauge.Values {
		y.Gauge.Values[k].Group = 99
	}
	for k := range y.Devices {
		y.Devices[k].Now = 99
		for j := range y.Devices[k].Queue {
			y.Devices[k].Queue[j].Group = 99
		}
	}
	for k := range y.Processors.Branches {
		y.Processors.Branches[k].Group = 99
		for j := range y.Processors.Branches[k].Queue.Items {
			y.Processors.Branches[k].Queue.Items[j].ID = 99
		}
	}
	for k := range y.Processors.Pools {
		y.Processors.Pools[k].Local[0] = 99
	}
}

// compare compares a system with what is expected, and sees that it shares no memory with the argument.
func compare(t *testing.T, i any, y, got, want api.System, e, f api.Errno) {
	t.Helper()
	before := fmt.Sprint(y)
	if e != f || !eq(got, want) {
		t.Errorf("%v: %v\n%v\n%v", i, e, got, want)
	}
	scribble(got)
	if fmt.Sprint(y) != before {
		t.Error(i, "memory is shared")
	}
}

func TestP39_1New(t *testing.T) {
	change := func(f func(*api.Setup)) api.Setup {
		s := setup()
		f(&s)
		return s
	}
	for i, x := range []struct {
		s api.Setup
		e api.Errno
	}{
		{setup(), api.OK}, {change(func(s *api.Setup) { s.Devices = nil; s.Online = []int{1} }), api.OK}, {change(func(s *api.Setup) { s.Pages, s.SwapSize, s.Period = api.MaxPages/2, api.MaxPages/2, api.MaxTime }), api.OK}, {change(func(s *api.Setup) { s.Pages, s.SwapSize, s.Period = 1, 0, 1 }), api.OK}, {change(func(s *api.Setup) { s.Devices = slices.Repeat(s.Devices, 4) }), api.OK},
		{api.Setup{}, api.ErrInvalid}, {change(func(s *api.Setup) { s.Machine.Domains = nil }), api.ErrInvalid}, {change(func(s *api.Setup) { s.Machine.Domains = []int{0, -1} }), api.ErrInvalid}, {change(func(s *api.Setup) { s.Slice = 0 }), api.ErrInvalid}, {change(func(s *api.Setup) { s.Online = nil }), api.ErrInvalid}, {change(func(s *api.Setup) { s.Online = []int{2} }), api.ErrInvalid}, {change(func(s *api.Setup) { s.Online = []int{1, 0} }), api.ErrInvalid}, {change(func(s *api.Setup) { s.Pages = 0 }), api.ErrInvalid}, {change(func(s *api.Setup) { s.Pages = api.MaxPages/2 + 1 }), api.ErrInvalid}, {change(func(s *api.Setup) { s.SwapSize = -1 }), api.ErrInvalid}, {change(func(s *api.Setup) { s.SwapSize = api.MaxPages/2 + 1 }), api.ErrInvalid}, {change(func(s *api.Setup) { s.Period = 0 }), api.ErrInvalid}, {change(func(s *api.Setup) { s.Period = api.MaxTime + 1 }), api.ErrInvalid}, {change(func(s *api.Setup) { s.Devices[1].Speed = 0 }), api.ErrInvalid}, {change(func(s *api.Setup) { s.Devices = append(slices.Repeat(s.Devices, 4), s.Devices[0]) }), api.ErrInvalid},
	} {
		var want api.System
		if x.e == api.OK {
			h := member.New()
			g, _ := pressure.New(h.Tree, x.s.Period)
			p, _ := cpu.New(h, settings.New(h.Tree), x.s.Machine, x.s.Slice)
			want = api.System{Setup: x.s, Hierarchy: h, Configs: settings.New(h.Tree), Counts: pids.New(h), Stock: api.Stock{SwapSize: x.s.SwapSize}, Freezer: freeze.New(h), Tallies: event.New(h.Tree), Gauge: g, Processors: p}
			for _, c := range x.s.Devices {
				d, _ := device.New(c)
				want.Devices = append(want.Devices, d)
			}
		}
		y, e := estate.New(x.s)
		if e == api.OK && !estate.Valid(y) {
			t.Error(i, "not valid")
		}
		before := fmt.Sprint(x.s)
		compare(t, i, api.System{}, y, want, e, x.e)
		if fmt.Sprint(x.s) != before {
			t.Error(i, "memory is shared")
		}
	}
}

func TestP39_1Valid(t *testing.T) {
	for i, x := range []struct {
		change func(*api.System)
		want   bool
	}{
		{func(y *api.System) {}, true}, {func(y *api.System) { *y = api.System{} }, false}, {func(y *api.System) { y.Setup.Pages = 0 }, false}, {func(y *api.System) { y.Setup.Pages = 1 }, true}, {func(y *api.System) { y.Setup.Slice = 4 }, true}, {func(y *api.System) { y.Now = 1 }, false}, {func(y *api.System) { y.Now, y.Devices[0].Now, y.Devices[1].Now = 1, 1, 1 }, true}, {func(y *api.System) { y.Now, y.Devices[0].Now, y.Devices[1].Now = -1, -1, -1 }, false}, {func(y *api.System) { y.Setup.Devices, y.Devices, y.Now = nil, nil, api.MaxTime }, true}, {func(y *api.System) { y.Setup.Devices, y.Devices, y.Now = nil, nil, api.MaxTime+1 }, false}, {func(y *api.System) { y.Setup.Devices, y.Devices, y.Now = nil, nil, -1 }, false},
		{func(y *api.System) { y.Hierarchy.Next = 1 }, false}, {func(y *api.System) { y.Hierarchy.Tree.Nodes[2].Control = api.Memory }, false}, {func(y *api.System) { y.Hierarchy.Tasks[1].Group = 4 }, false}, {func(y *api.System) { y.Configs[1].Settings.Weight = 0 }, false}, {func(y *api.System) { y.Configs[1].Settings.Weight = 7 }, true}, {func(y *api.System) { y.Configs = y.Configs[:4] }, false},
		{func(y *api.System) { y.Counts[1].Now = 0 }, false}, {func(y *api.System) { y.Counts[1].Limit = 5 }, false}, {func(y *api.System) { y.Configs[1].Settings.PidsMax = 5 }, false}, {func(y *api.System) { y.Counts[1].Limit, y.Configs[1].Settings.PidsMax = 5, 5 }, true}, {func(y *api.System) { y.Residents[0].Anon = 11 }, false}, {func(y *api.System) { y.Objects[0].Size = 1 }, false}, {func(y *api.System) { y.Stock.Holdings[0].File = 5 }, false}, {func(y *api.System) { y.Stock.SwapSize = 49 }, false}, {func(y *api.System) { y.Stock.SwapSize, y.Setup.SwapSize = 49, 49 }, true},
		{func(y *api.System) { y.Adjusts[0].Value = 0 }, false}, {func(y *api.System) { y.Adjusts[0].Value = -1000 }, true}, {func(y *api.System) { y.Adjusts[0].Value = -1001 }, false}, {func(y *api.System) { y.Adjusts[1].Value = 1001 }, false}, {func(y *api.System) { y.Adjusts[0].Process = 2 }, false}, {func(y *api.System) { y.Adjusts[0].Process = 9 }, false}, {func(y *api.System) { y.Adjusts[0].Process = 3 }, false}, {func(y *api.System) { y.Adjusts[0].Process = 4 }, false}, {func(y *api.System) { y.Adjusts[1].Process = 4 }, true},
		{func(y *api.System) { y.Freezer.Stopped = []int{1} }, false}, {func(y *api.System) { y.Tallies = y.Tallies[1:] }, false}, {func(y *api.System) { y.Gauge.Values[3].Some.Total = 1 }, false}, {func(y *api.System) { y.Gauge.Period = 11 }, false}, {func(y *api.System) { y.Gauge.Period, y.Setup.Period = 11, 11 }, true}, {func(y *api.System) { y.Gauge.Now = 1 }, false},
		{func(y *api.System) { y.Devices = y.Devices[:1] }, false}, {func(y *api.System) { y.Devices = append(y.Devices, y.Devices[0]) }, false}, {func(y *api.System) { y.Devices[0], y.Devices[1] = y.Devices[1], y.Devices[0] }, false}, {func(y *api.System) { y.Devices[1].Head = -1 }, false}, {func(y *api.System) { y.Devices[1].Config.Margin = 1 }, false}, {func(y *api.System) { y.Setup.Devices[1].Margin = 1 }, false}, {func(y *api.System) { y.Setup.Devices[1].Margin, y.Devices[1].Config.Margin = 1, 1 }, true}, {func(y *api.System) { y.Devices[1].Now = 1 }, false},
		{func(y *api.System) { y.Processors.Tick = -1 }, false}, {func(y *api.System) { y.Processors.Branches = nil }, false}, {func(y *api.System) { y.Processors.Machine.Domains[0] = 1 }, false}, {func(y *api.System) { y.Setup.Machine.Domains[0] = 1 }, false}, {func(y *api.System) { y.Setup.Machine.Domains[0], y.Processors.Machine.Domains[0] = 1, 1 }, true},
	} {
		if estate.Valid(with(x.change)) != x.want {
			t.Error(i)
		}
	}
}

func TestP39_2(t *testing.T) {
	y := with(func(y *api.System) {
		y.Configs[0].Settings.Memory = api.MemorySettings{Min: 9, Max: 5}
		y.Configs[1].Settings.Memory = api.MemorySettings{Min: 1, Low: 2, High: 3, Max: 4, SwapMax: 5, Together: true}
	})
	want := []api.MemoryConfig{{Group: 1, Memory: api.MemorySettings{High: api.Max, Max: 100, SwapMax: api.Max}}, {Group: 2, Memory: y.Configs[1].Settings.Memory}, {Group: 3, Memory: api.DefaultMemory()}, {Group: 4, Memory: api.DefaultMemory()}, {Group: 5, Memory: api.DefaultMemory()}}
	if l := estate.Memory(y); !eq(l, want) {
		t.Error(l)
	}
	if l := estate.Memory(wrong); l != nil {
		t.Error(l)
	}
}

// sync does word by word what Sync promises.
func sync(y api.System) api.System {
	z := copies.System(y)
	h := y.Hierarchy
	z.Configs = settings.Adjust(h.Tree, y.Configs)
	z.Counts = pids.Adjust(h, y.Counts)
	for i := range z.Counts {
		z.Counts[i].Limit = z.Configs[i].Settings.PidsMax
	}
	z.Adjusts = nil
	for _, a := range y.Adjusts {
		if k, ok := member.Find(h, a.Process); ok && k.Process == k.ID {
			z.Adjusts = append(z.Adjusts, a)
		}
	}
	z.Freezer, _ = freeze.Adjust(h, y.Freezer)
	z.Tallies, _ = event.Adjust(h.Tree, y.Tallies)
	z.Gauge, _ = pressure.Adjust(h.Tree, y.Gauge)
	for i := range z.Devices {
		z.Devices[i], _ = device.Adjust(h.Tree, y.Devices[i])
	}
	z.Processors, _ = cpu.Sync(h, z.Configs, y.Processors, y.Setup.Slice)
	return z
}

func TestP39_3(t *testing.T) {
	grown := with(func(y *api.System) {
		y.Hierarchy.Tree, _, _ = tree.Add(y.Hierarchy.Tree, 2, "new")
		y.Hierarchy, _, _ = member.Spawn(y.Hierarchy, 6, 0)
		y.Hierarchy, _ = member.Place(y.Hierarchy, 4, 4)
		y.Configs[2].Settings.PidsMax, y.Configs[2].Settings.Weight, y.Configs[3].Settings.Quota = 3, 55, 9
	})
	fewer := with(func(y *api.System) {
		y.Hierarchy, _ = member.Exit(y.Hierarchy, 4)
		y.Hierarchy.Tree.Nodes[3].Owner = 9
		y.Adjusts = append(y.Adjusts, api.Adjustment{Process: 4, Value: 3}, api.Adjustment{Process: 77, Value: 3})
		y.Counts[2].Now, y.Tallies[2].Counts[0], y.Freezer.Stopped = 77, -5, []int{4, 9}
	})
	for i, y := range []api.System{base(), grown, fewer, with(func(y *api.System) { y.Configs[1].Settings.Quota = 7 })} {
		got, e := estate.Sync(y)
		if !estate.Valid(got) {
			t.Error(i, "not valid")
		}
		compare(t, i, y, got, sync(y), e, api.OK)
	}
	for i, change := range []func(*api.System){
		func(y *api.System) { *y = api.System{} }, func(y *api.System) { y.Hierarchy.Next = 1 }, func(y *api.System) { y.Hierarchy.Tree.Next = 1 }, func(y *api.System) { y.Configs[1].Settings.Weight = 0 }, func(y *api.System) { y.Gauge.Now = -1 }, func(y *api.System) { y.Gauge.Now = 1 }, func(y *api.System) { y.Devices[0].Head = -1 }, func(y *api.System) { y.Setup.Slice = 0 }, func(y *api.System) { y.Processors.Tick = -1 }, func(y *api.System) { y.Residents[0].Anon++ }, func(y *api.System) { y.Adjusts[0].Value = 0 },
		func(y *api.System) { y.Hierarchy.Tasks[1].Group = 4 }, func(y *api.System) { y.Now = 1 },
	} {
		if got, e := estate.Sync(with(change)); e != api.ErrInvalid || !eq(got, api.System{}) {
			t.Error(i, got, e)
		}
	}
}

func TestP39_4(t *testing.T) {
	y := base()
	s := api.Stock{SwapSize: 9, Holdings: []api.Holding{{Group: 1, File: 1}}}
	l := []api.Shrink{{Group: 3, File: 3, Anon: 4, Low: 2}, {Group: 4, File: 6}, {Group: 3, File: 1, Anon: 6, Low: 1}, {Group: 5, Anon: 1}}
	want := copies.System(y)
	want.Stock = s
	for _, x := range l {
		want.Objects, _ = shared.Drop(y.Hierarchy.Tree, want.Objects, x.Group, x.File)
		want.Residents, _ = private.Out(y.Hierarchy, want.Residents, x.Group, x.Anon)
	}
	want.Tallies[2].Counts[api.EventLow] = 2
	before := fmt.Sprint(s)
	got, e := estate.Absorb(y, s, l)
	compare(t, 0, y, got, want, e, api.OK)
	if fmt.Sprint(s) != before {
		t.Error("memory is shared")
	}
	got, e = estate.Absorb(wrong, y.Stock, nil)
	compare(t, 1, wrong, got, wrong, e, api.OK)
	full := with(func(y *api.System) { y.Tallies[2].Counts[api.EventLow] = api.MaxValue })
	want = copies.System(full)
	got, e = estate.Absorb(full, y.Stock, []api.Shrink{{Group: 3, Low: 7}})
	compare(t, 2, full, got, want, e, api.OK)
	for i, x := range [][]api.Shrink{{{Group: 3, File: 5}}, {{Group: 3, Anon: 11}}, {{Group: 9}}, {{Group: 3}, {Group: 4, File: -1}}, {{Group: 4, File: 6}, {Group: 4, File: 1}}} {
		if got, e := estate.Absorb(y, s, x); e != api.ErrInvalid || !eq(got, api.System{}) {
			t.Error(i, e)
		}
	}
}

// TestP39_5 compares with what delegate does, for several actors and all groups.
func TestP39_5(t *testing.T) {
	y := base()
	h := y.Hierarchy
	type call struct {
		name  string
		do    func(y api.System, actor, id int) (api.System, api.Errno)
		plain func(actor, id int) (api.Hierarchy, api.Errno)
	}
	for _, c := range []call{
		{"create", func(y api.System, actor, id int) (api.System, api.Errno) {
			z, g, e := estate.Create(y, actor, id, "new")
			if g != 0 && g != 6 || (g == 6) != (e == api.OK) {
				t.Error("Create", g, e)
			}
			return z, e
		}, func(actor, id int) (api.Hierarchy, api.Errno) {
			h, _, e := delegate.Create(h, actor, id, "new")
			return h, e
		}},
		{"control", func(y api.System, actor, id int) (api.System, api.Errno) {
			return estate.Control(y, actor, id, api.CPU, api.Memory)
		}, func(actor, id int) (api.Hierarchy, api.Errno) {
			return delegate.Control(h, actor, id, api.CPU, api.Memory)
		}},
		{"convert", estate.Convert, func(actor, id int) (api.Hierarchy, api.Errno) { return delegate.Convert(h, actor, id) }},
		{"grant", func(y api.System, actor, id int) (api.System, api.Errno) { return estate.Grant(y, actor, id, 8) }, func(actor, id int) (api.Hierarchy, api.Errno) {
			tr, e := delegate.Grant(h.Tree, actor, id, 8)
			if e != api.OK {
				return api.Hierarchy{}, e
			}
			return api.Hierarchy{Tree: tr, Tasks: h.Tasks, Next: h.Next}, e
		}},
		{"move", func(y api.System, actor, id int) (api.System, api.Errno) { return estate.Move(y, actor, 1, id) }, func(actor, id int) (api.Hierarchy, api.Errno) { return delegate.Move(h, actor, 1, id) }},
		{"thread", func(y api.System, actor, id int) (api.System, api.Errno) { return estate.MoveThread(y, actor, 4, id) }, func(actor, id int) (api.Hierarchy, api.Errno) { return delegate.MoveThread(h, actor, 4, id) }},
	} {
		done := 0
		for _, actor := range []int{-1, 0, 7, 8} {
			for id := 0; id < 7; id++ {
				n, e := c.plain(actor, id)
				var want api.System
				if e == api.OK {
					z := copies.System(y)
					z.Hierarchy = n
					want = sync(z)
					done++
				}
				got, f := c.do(y, actor, id)
				if f == api.OK && !estate.Valid(got) {
					t.Error(c.name, actor, id, "not valid")
				}
				compare(t, fmt.Sprint(c.name, actor, id), y, got, want, f, e)
			}
		}
		if got, e := c.do(wrong, 0, 2); e != api.ErrInvalid || !eq(got, api.System{}) {
			t.Error(c.name, e)
		}
		if done == 0 {
			t.Error(c.name, "never done")
		}
	}
}

func TestP39_6(t *testing.T) {
	y := base()
	tr := y.Hierarchy.Tree
	want := copies.System(y)
	want.Hierarchy, _ = delegate.Remove(y.Hierarchy, 7, 5)
	want.Stock, _ = swap.Remove(tr, y.Stock, 5)
	want.Objects, _ = shared.Remove(tr, y.Objects, 5)
	want.Residents = private.Remove(tr, y.Residents, 5)
	want.Tallies, _ = event.Remove(tr, y.Tallies, 5)
	got, e := estate.Remove(y, 7, 5)
	if !estate.Valid(got) || got.Tallies[2].Counts[api.EventKill] != 3 || len(got.Devices[0].Queue) != 2 || swap.Get(got.Stock, 3).Anon != 13 {
		t.Error(got)
	}
	compare(t, 0, y, got, sync(want), e, api.OK)
	for i, x := range []struct {
		y         api.System
		actor, id int
		e         api.Errno
	}{{wrong, 0, 9, api.ErrInvalid}, {y, -1, 9, api.ErrInvalid}, {y, 0, 9, api.ErrUnknown}, {y, 7, 2, api.ErrDenied}, {y, 8, 5, api.ErrDenied}, {y, 0, 1, api.ErrState}, {y, 0, 2, api.ErrBusy}, {y, 0, 4, api.ErrBusy}, {y, 7, 3, api.ErrBusy}} {
		if got, e := estate.Remove(x.y, x.actor, x.id); e != x.e || !eq(got, api.System{}) {
			t.Error(i, e)
		}
	}
}

func change(f func(*api.Settings)) api.Settings {
	s := settings.Default()
	f(&s)
	return s
}

func TestP39_7(t *testing.T) {
	y := base()
	device0 := api.DeviceSettings{Device: 0, Weight: 300, ReadPages: 50, WritePages: api.Max, ReadOps: api.Max, WriteOps: api.Max, Target: 5}
	for i, s := range []api.Settings{
		settings.Default(), change(func(s *api.Settings) { s.PidsMax, s.Weight, s.Quota, s.Burst = 1, 77, 50, 5 }),
		change(func(s *api.Settings) {
			s.Devices = []api.DeviceSettings{device0, {Device: 7, Weight: 5, ReadPages: 1, WritePages: 1, ReadOps: 1, WriteOps: 1}}
		}),
		change(func(s *api.Settings) { s.Memory.Max = 12 }), change(func(s *api.Settings) { s.Memory.Max, s.Memory.SwapMax = 12, 3 }), change(func(s *api.Settings) { s.Memory.Max, s.Memory.Low = 12, 15 }),
	} {
		want := copies.System(y)
		want.Configs, _ = settings.Set(y.Hierarchy.Tree, y.Configs, 3, s)
		want = sync(want)
		if len(s.Devices) > 0 {
			want.Devices[0], _ = device.Set(y.Hierarchy.Tree, want.Devices[0], 3, device0)
		}
		stock, shrinks, _, _ := limit.Shed(y.Hierarchy.Tree, want.Stock, estate.Memory(want), 3)
		want, _ = estate.Absorb(want, stock, shrinks)
		got, e := estate.Set(y, 7, 3, s)
		if !estate.Valid(got) || s.Memory.Max == 12 && len(shrinks) == 0 {
			t.Error(i, "not valid")
		}
		compare(t, i, y, got, want, e, api.OK)
	}
	// What has been set for a device and is not changed is left alone; what is dropped is taken back.
	set, _ := estate.Set(y, 0, 3, change(func(s *api.Settings) { s.Devices = []api.DeviceSettings{device0} }))
	set.Devices[0].Buckets[0].ReadPages.Level = 150
	again, e := estate.Set(set, 0, 3, change(func(s *api.Settings) { s.Devices = []api.DeviceSettings{device0}; s.Weight = 5 }))
	if e != api.OK || again.Devices[0].Buckets[0].ReadPages.Level != 150 {
		t.Error(again.Devices[0], e)
	}
	back, e := estate.Set(set, 0, 3, settings.Default())
	if e != api.OK || len(back.Devices[0].Weights) != 0 || len(back.Devices[0].Buckets) != 0 || len(back.Devices[0].Depths) != 0 {
		t.Error(back.Devices[0], e)
	}
	bad := api.Settings{}
	for i, x := range []struct {
		y         api.System
		actor, id int
		s         api.Settings
		e         api.Errno
	}{
		{wrong, 0, 9, bad, api.ErrInvalid}, {y, -1, 9, bad, api.ErrInvalid}, {y, api.MaxUser + 1, 9, bad, api.ErrInvalid}, {y, 8, 9, bad, api.ErrUnknown}, {y, 7, 2, bad, api.ErrDenied}, {y, 7, 1, bad, api.ErrDenied}, {y, 0, 1, bad, api.ErrState}, {y, 0, 2, bad, api.ErrRange}, {y, 7, 3, change(func(s *api.Settings) { s.Memory.Max = -1 }), api.ErrRange}, {y, 0, 1, settings.Default(), api.ErrState},
	} {
		if got, e := estate.Set(x.y, x.actor, x.id, x.s); e != x.e || !eq(got, api.System{}) {
			t.Error(i, e)
		}
	}
}

func TestP39_8(t *testing.T) {
	y := base()
	for i, x := range []struct {
		actor, id int
		want      bool
	}{{0, 2, true}, {7, 2, true}, {7, 5, true}, {0, 4, false}, {0, 4, true}} {
		want := copies.System(y)
		want.Freezer, _ = freeze.Set(y.Hierarchy, y.Freezer, x.id, x.want)
		got, e := estate.Freeze(y, x.actor, x.id, x.want)
		if !estate.Valid(got) {
			t.Error(i, "not valid")
		}
		compare(t, i, y, got, want, e, api.OK)
	}
	for i, x := range []struct {
		y         api.System
		actor, id int
		e         api.Errno
	}{{wrong, 0, 9, api.ErrInvalid}, {y, -1, 9, api.ErrInvalid}, {y, api.MaxUser + 1, 9, api.ErrInvalid}, {y, 8, 9, api.ErrUnknown}, {y, 8, 2, api.ErrDenied}, {y, api.MaxUser, 2, api.ErrDenied}, {y, 7, 4, api.ErrDenied}, {y, 7, 1, api.ErrDenied}, {y, 0, 1, api.ErrState}} {
		if got, e := estate.Freeze(x.y, x.actor, x.id, true); e != x.e || !eq(got, api.System{}) {
			t.Error(i, e)
		}
	}
}

func TestP39_9Fork(t *testing.T) {
	y := base()
	tight, _ := estate.Set(y, 0, 2, change(func(s *api.Settings) { s.PidsMax = 2 }))
	tight, _ = estate.Set(tight, 0, 3, change(func(s *api.Settings) { s.PidsMax = 3 }))
	full := copies.System(tight)
	full.Tallies[1].Counts[api.EventPids] = api.MaxValue
	refused := func(y api.System) api.System {
		z := copies.System(y)
		z.Counts[1].Events++
		z.Tallies[1].Counts[api.EventPids] = min(z.Tallies[1].Counts[api.EventPids]+1, api.MaxValue)
		return z
	}
	for i, x := range []struct {
		y           api.System
		group, user int
		id          int
		e           api.Errno
	}{
		{y, 3, 7, 5, api.OK}, {y, 4, 0, 5, api.OK}, {y, 1, api.MaxUser, 5, api.OK}, {tight, 4, 0, 5, api.OK}, {wrong, 9, -1, 0, api.ErrInvalid}, {y, 9, -1, 0, api.ErrUnknown}, {y, 3, -1, 0, api.ErrInvalid}, {tight, 3, 7, 0, api.ErrAgain}, {full, 5, 7, 0, api.ErrAgain},
	} {
		var want api.System
		if x.e == api.OK {
			want = copies.System(x.y)
			want.Hierarchy, want.Counts, _, _ = pids.Spawn(x.y.Hierarchy, x.y.Counts, x.group, x.user)
			want = sync(want)
		} else if x.e == api.ErrAgain {
			want = refused(x.y)
		}
		got, id, e := estate.Spawn(x.y, x.group, x.user)
		if id != x.id || (e == api.OK || e == api.ErrAgain) && !estate.Valid(got) {
			t.Error(i, id)
		}
		compare(t, i, x.y, got, want, e, x.e)
	}
	for i, x := range []struct {
		y    api.System
		task int
		id   int
		e    api.Errno
	}{{y, 1, 5, api.OK}, {y, 2, 5, api.OK}, {tight, 3, 5, api.OK}, {wrong, 9, 0, api.ErrInvalid}, {y, 9, 0, api.ErrUnknown}, {tight, 2, 0, api.ErrAgain}, {full, 1, 0, api.ErrAgain}} {
		var want api.System
		if x.e == api.OK {
			want = copies.System(x.y)
			want.Hierarchy, want.Counts, _, _ = pids.Clone(x.y.Hierarchy, x.y.Counts, x.task)
			want = sync(want)
		} else if x.e == api.ErrAgain {
			want = refused(x.y)
		}
		got, id, e := estate.Clone(x.y, x.task)
		if id != x.id || (e == api.OK || e == api.ErrAgain) && !estate.Valid(got) {
			t.Error(i, id)
		}
		compare(t, i, x.y, got, want, e, x.e)
	}
}

func TestP39_9Exit(t *testing.T) {
	y := base()
	for _, task := range []int{1, 2, 3, 4} {
		want := copies.System(y)
		want.Hierarchy, _ = member.Exit(y.Hierarchy, task)
		switch task {
		case 1:
			want.Residents = want.Residents[2:]
			want.Stock.Holdings = []api.Holding{{Group: 3, File: 4}, {Group: 4, File: 6, Anon: 5, Swap: 1}, {Group: 5, File: 1}}
			want.Devices[0].Queue = want.Devices[0].Queue[2:]
		case 2:
			want.Devices[0].Queue = slices.Delete(want.Devices[0].Queue, 1, 2)
		case 3:
			want.Residents = want.Residents[:2]
			want.Stock.Holdings[1] = api.Holding{Group: 4, File: 6}
			want.Devices[0].Queue = want.Devices[0].Queue[:2]
		}
		got, e := estate.Exit(y, task)
		if !estate.Valid(got) {
			t.Error(task, "not valid")
		}
		compare(t, task, y, got, sync(want), e, api.OK)
	}
	flying := copies.System(y)
	flying.Devices[0].Flights = []api.Flight{{Request: api.Request{Task: 1, Group: 3, Pages: 1}, Done: 9}}
	if got, e := estate.Exit(flying, 1); e != api.OK || len(got.Devices[0].Flights) != 1 {
		t.Error("a flight ends, whoever asked for it", e)
	}
	for i, x := range []struct {
		y    api.System
		task int
		e    api.Errno
	}{{wrong, 1, api.ErrInvalid}, {wrong, 9, api.ErrInvalid}, {y, 9, api.ErrUnknown}, {y, 0, api.ErrUnknown}} {
		if got, e := estate.Exit(x.y, x.task); e != x.e || !eq(got, api.System{}) {
			t.Error(i, e)
		}
	}
}

// TestExample plays the examples of chapter 39.
func TestExample(t *testing.T) {
	s := setup()
	s.Devices = nil
	y, _ := estate.New(s)
	y, a, _ := estate.Create(y, 0, 1, "a")
	y, task, _ := estate.Spawn(y, a, 0)
	if _, e := estate.Remove(y, 0, a); a != 2 || task != 1 || e != api.ErrBusy {
		t.Error(a, task, e)
	}
	y, _ = estate.Set(y, 0, a, change(func(s *api.Settings) { s.PidsMax = 1 }))
	y, _, e := estate.Clone(y, task)
	if e != api.ErrAgain || event.Own(y.Tallies, a, api.EventPids) != 1 {
		t.Error(e)
	}
	y, _ = estate.Exit(y, task)
	if _, e := estate.Remove(y, 0, a); e != api.OK {
		t.Error(e)
	}
}

// TestConsequences does random calls: systems stay valid, and nothing but Exit and Set changes the usage of memory.
func TestConsequences(t *testing.T) {
	r := rand.New(rand.NewSource(41))
	y := base()
	usage := func(y api.System) int {
		n, _ := counter.Total(y.Hierarchy.Tree, swap.Counter(y.Stock), 1)
		return n
	}
	done := map[int]int{}
	for i := 0; i < 1500; i++ {
		actor := []int{0, 0, 7}[r.Intn(3)]
		id := y.Hierarchy.Tree.Nodes[r.Intn(len(y.Hierarchy.Tree.Nodes))].ID
		task := 1 + r.Intn(y.Hierarchy.Next)
		if len(y.Hierarchy.Tasks) > 0 {
			task = y.Hierarchy.Tasks[r.Intn(len(y.Hierarchy.Tasks))].ID
		}
		var z api.System
		var e api.Errno
		kind := r.Intn(12)
		switch kind {
		case 0:
			if z, _, e = estate.Create(y, actor, id, string(rune('a'+r.Intn(4)))); len(y.Hierarchy.Tree.Nodes) > 9 {
				e = api.ErrLimit
			}
		case 1:
			z, e = estate.Remove(y, actor, id)
		case 2:
			z, e = estate.Control(y, actor, id, r.Intn(32)&r.Intn(32), 0)
		case 3:
			z, e = estate.Control(y, actor, id, 0, r.Intn(32)&r.Intn(32))
		case 4:
			z, e = estate.Convert(y, actor, id)
		case 5:
			z, e = estate.Grant(y, 0, id, 7*r.Intn(2))
		case 6:
			z, e = estate.Move(y, actor, task, id)
		case 7:
			z, e = estate.MoveThread(y, actor, task, id)
		case 8:
			z, e = estate.Set(y, actor, id, change(func(s *api.Settings) { s.PidsMax, s.Weight, s.Memory.Max = r.Intn(6), 1+r.Intn(99), 5+r.Intn(40) }))
		case 9:
			z, e = estate.Freeze(y, actor, id, r.Intn(2) == 0)
		case 10:
			z, _, e = estate.Spawn(y, id, 7)
			if r.Intn(2) == 0 {
				z, _, e = estate.Clone(y, task)
			}
			if len(y.Hierarchy.Tasks) > 8 {
				e = api.ErrLimit
			}
		case 11:
			z, e = estate.Exit(y, task)
		}
		if e != api.OK && e != api.ErrAgain {
			continue
		}
		if !estate.Valid(z) || kind != 8 && kind != 11 && usage(z) != usage(y) {
			t.Fatal(kind, z)
		}
		done[kind]++
		y = z
	}
	for kind := range 12 {
		if done[kind] < 3 {
			t.Error(kind, done[kind])
		}
	}
}
