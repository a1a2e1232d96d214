package settings_test

import (
	"fmt"
	"math/rand"
	"slices"
	"testing"

	"groupcontrol/api"
	"groupcontrol/settings"
	"groupcontrol/tree"
)

func eq(a, b any) bool { return fmt.Sprint(a) == fmt.Sprint(b) }

// sample has /a (2), /a/b (3), /c (4).
func sample() api.Tree {
	return api.Tree{Next: 5, Nodes: []api.Node{{ID: 1}, {ID: 2, Parent: 1, Name: "a"}, {ID: 3, Parent: 2, Name: "b"}, {ID: 4, Parent: 1, Name: "c"}}}
}

// full returns settings of which every field is set.
func full() api.Settings {
	return api.Settings{PidsMax: 5, Weight: 200, Quota: 1000, Period: 2000, Burst: 500, ClampMin: 100, ClampMax: 9000, Cpus: []int{0, 2}, Mems: []int{1}, Partition: api.PartitionRoot,
		Memory: api.MemorySettings{Min: 1, Low: 2, High: 3, Max: 4, SwapMax: 5, Together: true}, Devices: []api.DeviceSettings{{Device: 0, Weight: 50, ReadPages: 1, WritePages: 2, ReadOps: 3, WriteOps: 4, Target: 5}, {Device: 3, Weight: 60, ReadPages: api.Max, WritePages: api.Max, ReadOps: api.Max, WriteOps: api.Max}}}
}

func with(change func(*api.Settings)) api.Settings {
	s := full()
	change(&s)
	return s
}

func TestP11_1(t *testing.T) {
	want := api.Settings{PidsMax: api.Max, Weight: 100, Quota: api.Max, Period: 100000, ClampMax: 10000, Memory: api.DefaultMemory(), Devices: api.DefaultDevices()}
	if s := settings.Default(); !eq(s, want) || !settings.Check(s) {
		t.Error(s)
	}
	for i, x := range []struct {
		s    api.Settings
		want bool
	}{
		{full(), true}, {api.Settings{}, false},
		{with(func(s *api.Settings) { s.PidsMax = -1 }), false}, {with(func(s *api.Settings) { s.PidsMax = 0 }), true}, {with(func(s *api.Settings) { s.PidsMax = api.MaxValue }), true}, {with(func(s *api.Settings) { s.PidsMax = api.MaxValue + 1 }), false}, {with(func(s *api.Settings) { s.PidsMax = api.Max }), true}, {with(func(s *api.Settings) { s.PidsMax = api.Max + 1 }), false},
		{with(func(s *api.Settings) { s.Weight = 0 }), false}, {with(func(s *api.Settings) { s.Weight = 1 }), true}, {with(func(s *api.Settings) { s.Weight = 10000 }), true}, {with(func(s *api.Settings) { s.Weight = 10001 }), false}, {with(func(s *api.Settings) { s.Weight = api.Max }), false},
		{with(func(s *api.Settings) { s.Quota, s.Burst = 0, 0 }), false}, {with(func(s *api.Settings) { s.Quota, s.Burst = 1, 0 }), true}, {with(func(s *api.Settings) { s.Quota = 1000000 }), true}, {with(func(s *api.Settings) { s.Quota = 1000001 }), false}, {with(func(s *api.Settings) { s.Quota = api.Max }), false}, {with(func(s *api.Settings) { s.Quota, s.Burst = api.Max, 0 }), true}, {with(func(s *api.Settings) { s.Quota, s.Burst = api.Max, 1 }), false}, {with(func(s *api.Settings) { s.Quota, s.Burst = api.Max, -1 }), false}, {with(func(s *api.Settings) { s.Quota, s.Burst = api.Max+1, 0 }), false},
		{with(func(s *api.Settings) { s.Period = 0 }), false}, {with(func(s *api.Settings) { s.Period = 1 }), true}, {with(func(s *api.Settings) { s.Period = 1000000 }), true}, {with(func(s *api.Settings) { s.Period = 1000001 }), false}, {with(func(s *api.Settings) { s.Quota, s.Burst, s.Period = api.Max, 0, 0 }), false}, {with(func(s *api.Settings) { s.Quota, s.Burst, s.Period = api.Max, 0, 1000001 }), false}, {with(func(s *api.Settings) { s.Period = api.Max }), false},
		{with(func(s *api.Settings) { s.Burst = -1 }), false}, {with(func(s *api.Settings) { s.Burst = 0 }), true}, {with(func(s *api.Settings) { s.Burst = 1000 }), true}, {with(func(s *api.Settings) { s.Burst = 1001 }), false},
		{with(func(s *api.Settings) { s.ClampMin = -1 }), false}, {with(func(s *api.Settings) { s.ClampMin = 0 }), true}, {with(func(s *api.Settings) { s.ClampMin = 10000 }), true}, {with(func(s *api.Settings) { s.ClampMin = 10001 }), false},
		{with(func(s *api.Settings) { s.ClampMax = -1 }), false}, {with(func(s *api.Settings) { s.ClampMax = 0 }), true}, {with(func(s *api.Settings) { s.ClampMax = 10000 }), true}, {with(func(s *api.Settings) { s.ClampMax = 10001 }), false},
		{with(func(s *api.Settings) { s.Cpus = nil }), true}, {with(func(s *api.Settings) { s.Cpus = []int{15} }), true}, {with(func(s *api.Settings) { s.Cpus = []int{16} }), false}, {with(func(s *api.Settings) { s.Cpus = []int{1, 0} }), false}, {with(func(s *api.Settings) { s.Cpus = []int{-1} }), false},
		{with(func(s *api.Settings) { s.Mems = nil }), true}, {with(func(s *api.Settings) { s.Mems = []int{0, 7} }), true}, {with(func(s *api.Settings) { s.Mems = []int{8} }), false}, {with(func(s *api.Settings) { s.Mems = []int{1, 1} }), false},
		{with(func(s *api.Settings) { s.Partition = 0 }), true}, {with(func(s *api.Settings) { s.Partition = 2 }), false}, {with(func(s *api.Settings) { s.Partition = -1 }), false},
		{with(func(s *api.Settings) { s.Memory.Max = -1 }), false}, {with(func(s *api.Settings) { s.Memory.SwapMax = api.Max }), true}, {with(func(s *api.Settings) { s.Devices[1].Weight = 0 }), false}, {with(func(s *api.Settings) { s.Devices[1].Device = 0 }), false}, {with(func(s *api.Settings) { s.Devices = nil }), true},
	} {
		if settings.Check(x.s) != x.want {
			t.Error(i, x.s)
		}
	}
}

func configs() []api.Config {
	l := settings.New(sample())
	l[1].Settings = full()
	l[2].Settings.PidsMax = 77
	return l
}

func TestP11_2(t *testing.T) {
	bad := sample()
	bad.Next = 1
	l := settings.New(sample())
	if len(l) != 4 || !settings.Fits(sample(), l) {
		t.Error(l)
	}
	for i, c := range l {
		if c.Group != i+1 || !eq(c.Settings, settings.Default()) {
			t.Error(c)
		}
	}
	if settings.New(bad) != nil || settings.Adjust(bad, l) != nil {
		t.Error("a tree that Check refuses")
	}
	for i, x := range []struct {
		t      api.Tree
		change func(l []api.Config) []api.Config
		want   bool
	}{
		{sample(), func(l []api.Config) []api.Config { return l }, true}, {bad, func(l []api.Config) []api.Config { return l }, false}, {sample(), func(l []api.Config) []api.Config { return l[:3] }, false}, {sample(), func(l []api.Config) []api.Config { return nil }, false}, {sample(), func(l []api.Config) []api.Config { return append(l, l[3]) }, false},
		{sample(), func(l []api.Config) []api.Config { l[2], l[3] = l[3], l[2]; return l }, false}, {sample(), func(l []api.Config) []api.Config { l[2].Group = 2; return l }, false}, {sample(), func(l []api.Config) []api.Config { l[3].Settings.Weight = 0; return l }, false}, {sample(), func(l []api.Config) []api.Config { l[0].Settings.Weight = 0; return l }, false},
	} {
		if settings.Fits(x.t, x.change(configs())) != x.want {
			t.Error(i)
		}
	}
	odd := []api.Config{{Group: 3, Settings: full()}, {Group: 9, Settings: full()}, {Group: 3, Settings: settings.Default()}, {Group: 1}}
	for group, want := range map[int]api.Settings{3: full(), 9: full(), 1: {}, 2: settings.Default(), 0: settings.Default()} {
		s := settings.Get(odd, group)
		if !eq(s, want) {
			t.Error(group, s)
		}
		for _, l := range [][]int{s.Cpus, s.Mems} {
			for k := range l {
				l[k] = 99
			}
		}
		for k := range s.Devices {
			s.Devices[k].Weight = 99
		}
		if !eq(odd[0].Settings, full()) || !eq(odd[1].Settings, full()) {
			t.Fatal("memory is shared")
		}
	}
	want := []api.Config{{Group: 1}, {Group: 2, Settings: settings.Default()}, {Group: 3, Settings: full()}, {Group: 4, Settings: settings.Default()}}
	l = settings.Adjust(sample(), odd)
	if !eq(l, want) {
		t.Error(l)
	}
	l[2].Settings.Cpus[0], l[2].Settings.Mems[0], l[2].Settings.Devices[0].Weight = 9, 9, 9
	if !eq(odd[0].Settings, full()) {
		t.Error("memory is shared")
	}
}

func TestP11_3(t *testing.T) {
	bad := configs()
	bad[0].Settings.Weight = 0
	for i, x := range []struct {
		l     []api.Config
		group int
		s     api.Settings
		e     api.Errno
	}{
		{configs(), 1, full(), api.OK}, {configs(), 4, full(), api.OK}, {configs(), 2, settings.Default(), api.OK}, {configs(), 3, full(), api.OK},
		{bad, 1, full(), api.ErrInvalid}, {bad, 9, api.Settings{}, api.ErrInvalid}, {nil, 1, full(), api.ErrInvalid}, {configs(), 9, api.Settings{}, api.ErrUnknown}, {configs(), 0, full(), api.ErrUnknown}, {configs(), 2, api.Settings{}, api.ErrRange}, {configs(), 2, with(func(s *api.Settings) { s.Burst = 1001 }), api.ErrRange},
	} {
		before, kept := fmt.Sprint(x.l), fmt.Sprint(x.s)
		l, e := settings.Set(sample(), x.l, x.group, x.s)
		var want []api.Config
		if x.e == api.OK {
			want = slices.Clone(x.l)
			want[x.group-1].Settings = x.s
		}
		if e != x.e || !eq(l, want) {
			t.Error(i, l, e)
		}
		for k := range l {
			s := l[k].Settings
			for j := range s.Cpus {
				s.Cpus[j] = 99
			}
			for j := range s.Mems {
				s.Mems[j] = 99
			}
			for j := range s.Devices {
				s.Devices[j].Weight = 99
			}
			l[k].Group = 99
		}
		if fmt.Sprint(x.l) != before || fmt.Sprint(x.s) != kept {
			t.Error(i, "memory is shared")
		}
	}
}

func TestP11_4(t *testing.T) {
	l := configs()
	l[0].Settings.PidsMax, l[0].Settings.ClampMax, l[0].Settings.ClampMin = 40, 8000, 9000
	l[2].Settings.Quota, l[2].Settings.ClampMin, l[2].Settings.Weight = 3000, 8500, 7
	l[3].Settings.PidsMax, l[3].Settings.Quota = 41, 500
	want := []api.Settings{l[0].Settings, l[1].Settings, l[2].Settings, l[3].Settings}
	want[0].ClampMin = 8000
	want[1].ClampMax = 8000
	want[2].PidsMax, want[2].Quota, want[2].ClampMax, want[2].ClampMin = 5, 1000, 8000, 8000
	want[3].PidsMax, want[3].ClampMax = 40, 8000
	for i, s := range want {
		got := settings.Lowest(sample(), l, i+1)
		if !eq(got, s) {
			t.Error(i+1, got)
		}
		for k := range got.Cpus {
			got.Cpus[k] = 99
		}
		for k := range got.Devices {
			got.Devices[k].Weight = 99
		}
	}
	if !eq(l[1].Settings, full()) {
		t.Error("memory is shared")
	}
	bad := configs()
	bad[3].Settings.Period = 0
	wrong := sample()
	wrong.Next = 1
	for i, s := range []api.Settings{settings.Lowest(sample(), l, 5), settings.Lowest(sample(), l, 0), settings.Lowest(sample(), bad, 2), settings.Lowest(sample(), l[:3], 2), settings.Lowest(sample(), append(slices.Clone(l), l[3]), 2), settings.Lowest(wrong, l, 2), settings.Lowest(sample(), nil, 1)} {
		if !eq(s, api.Settings{}) {
			t.Error(i, s)
		}
	}
	changes := []func(*api.Settings){
		func(s *api.Settings) { s.PidsMax++ }, func(s *api.Settings) { s.Weight++ }, func(s *api.Settings) { s.Quota++ }, func(s *api.Settings) { s.Period++ }, func(s *api.Settings) { s.Burst++ }, func(s *api.Settings) { s.ClampMin++ }, func(s *api.Settings) { s.ClampMax++ }, func(s *api.Settings) { s.Partition++ },
		func(s *api.Settings) { s.Cpus = []int{0, 3} }, func(s *api.Settings) { s.Cpus = []int{0} }, func(s *api.Settings) { s.Cpus = nil }, func(s *api.Settings) { s.Mems = []int{1, 2} }, func(s *api.Settings) { s.Mems = []int{2} },
		func(s *api.Settings) { s.Memory.Min++ }, func(s *api.Settings) { s.Memory.Low++ }, func(s *api.Settings) { s.Memory.High++ }, func(s *api.Settings) { s.Memory.Max++ }, func(s *api.Settings) { s.Memory.SwapMax++ }, func(s *api.Settings) { s.Memory.Together = false },
		func(s *api.Settings) { s.Devices[1].Device++ }, func(s *api.Settings) { s.Devices[0].Weight++ }, func(s *api.Settings) { s.Devices[0].ReadPages++ }, func(s *api.Settings) { s.Devices[0].WritePages++ }, func(s *api.Settings) { s.Devices[0].ReadOps++ }, func(s *api.Settings) { s.Devices[0].WriteOps++ }, func(s *api.Settings) { s.Devices[0].Target++ }, func(s *api.Settings) { s.Devices = s.Devices[:1] },
	}
	for i, change := range changes {
		if a, b := full(), with(change); settings.Same(a, b) || settings.Same(b, a) || !settings.Same(b, with(change)) {
			t.Error(i)
		}
	}
	empty := api.Settings{Cpus: []int{}, Mems: []int{}, Devices: []api.DeviceSettings{}}
	if !settings.Same(full(), full()) || !settings.Same(empty, api.Settings{}) {
		t.Error("equal settings")
	}
}

// TestConsequences: Set and Get are inverse to each other, and Lowest does not grow downward.
func TestConsequences(t *testing.T) {
	r := rand.New(rand.NewSource(11))
	l := configs()
	for i := 0; i < 2000; i++ {
		s := with(func(s *api.Settings) {
			s.PidsMax, s.Quota, s.ClampMin, s.ClampMax = r.Intn(9), 500+r.Intn(9), r.Intn(10001), r.Intn(10001)
		})
		group := 1 + r.Intn(4)
		n, e := settings.Set(sample(), l, group, s)
		if e != api.OK || !settings.Same(settings.Get(n, group), s) {
			t.Fatal(n, e)
		}
		for k := range l {
			if k != group-1 && !settings.Same(n[k].Settings, l[k].Settings) {
				t.Fatal(k)
			}
		}
		l = n
		for _, g := range sample().Nodes[1:] {
			a, b := settings.Lowest(sample(), l, g.Parent), settings.Lowest(sample(), l, g.ID)
			if b.PidsMax > a.PidsMax || b.Quota > a.Quota || b.ClampMax > a.ClampMax || b.ClampMin > b.ClampMax || b.ClampMax != min(a.ClampMax, settings.Get(l, g.ID).ClampMax) || b.Quota != min(a.Quota, settings.Get(l, g.ID).Quota) || b.PidsMax != min(a.PidsMax, settings.Get(l, g.ID).PidsMax) || tree.Depth(sample(), g.ID) == 0 {
				t.Fatal(a, b)
			}
		}
	}
}
