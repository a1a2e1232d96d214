package console_test

import (
	"fmt"
	"math/rand"
	"slices"
	"strings"
	"testing"

	"groupcontrol/api"
	"groupcontrol/console"
	"groupcontrol/copies"
	"groupcontrol/delegate"
	"groupcontrol/estate"
	"groupcontrol/event"
	"groupcontrol/files"
	"groupcontrol/freeze"
	"groupcontrol/settings"
	"groupcontrol/threaded"
	"groupcontrol/tree"
)

func eq(a, b any) bool { return fmt.Sprint(a) == fmt.Sprint(b) }

// base has /a (2, of the user 7) with /a/b (3) and the threaded /a/t (4), below it /a/t/x (5), and /c (6), where nothing acts but memory and io.
// The process 1 (with the thread 2) of the user 7 is in /a/b, the process 3 in /, the process 4 of the user 7 in /a/t.
func base() api.System {
	y, e := estate.New(api.Setup{Machine: api.Machine{Domains: []int{0, 0, 0, 0}}, Online: []int{0, 1, 3}, Slice: 3, Pages: 100, SwapSize: 50, Period: 10, Devices: []api.DeviceConfig{{Speed: 10}, {Speed: 5}}})
	must := func(z api.System, f api.Errno) {
		if f != api.OK {
			panic(f)
		}
		y = z
	}
	must(y, e)
	for _, x := range []struct {
		parent int
		name   string
	}{{1, "a"}, {2, "b"}, {2, "t"}, {4, "x"}, {1, "c"}} {
		z, _, e := estate.Create(y, 0, x.parent, x.name)
		must(z, e)
	}
	must(estate.Control(y, 0, 1, api.AllControllers, 0))
	must(estate.Convert(y, 0, 4))
	must(estate.Control(y, 0, 2, api.CPU|api.Pids, 0))
	must(estate.Grant(y, 0, 2, 7))
	for _, x := range [][2]int{{3, 7}, {0, 0}, {1, 0}, {2, 7}} {
		if x[0] == 0 {
			z, _, e := estate.Clone(y, 1)
			must(z, e)
			continue
		}
		z, _, e := estate.Spawn(y, x[0], x[1])
		must(z, e)
	}
	must(estate.MoveThread(y, 0, 4, 4))
	y.Residents = []api.Resident{{Process: 1, Group: 2, Anon: 7, Swap: 2}, {Process: 1, Group: 3, Anon: 5, Swap: 1}}
	y.Stock.Holdings = []api.Holding{{Group: 2, Anon: 7, Swap: 2}, {Group: 3, Anon: 5, Swap: 1}}
	y.Tallies, _ = event.Add(y.Hierarchy.Tree, y.Tallies, 3, api.EventMax, 4)
	y.Tallies, _ = event.Add(y.Hierarchy.Tree, y.Tallies, 2, api.EventHigh, 1)
	y.Gauge.Values[3].Some.Short = 18550
	s := settings.Default()
	s.PidsMax, s.Quota, s.Burst, s.Cpus, s.Mems = 9, 500, 7, []int{0, 3}, []int{1}
	s.Memory = api.MemorySettings{Min: 1, Low: 2, High: 300, Max: 400, SwapMax: 5, Together: true}
	s.Devices = []api.DeviceSettings{{Device: 1, Weight: 50, ReadPages: 1, WritePages: 2, ReadOps: api.Max, WriteOps: 4, Target: 6}}
	must(estate.Set(y, 0, 2, s))
	if !estate.Valid(y) {
		panic("base")
	}
	return y
}

var (
	wrong = func() api.System { y := base(); y.Now = 1; return y }()
	empty = api.System{}
	all   = strings.Fields("cgroup.procs cgroup.threads cgroup.controllers cgroup.subtree_control cgroup.type cgroup.freeze cgroup.events cgroup.stat memory.min memory.low memory.high memory.max memory.swap.max memory.oom.group memory.current memory.swap.current memory.events memory.events.local pids.current cpuset.cpus.effective cpu.pressure memory.pressure io.pressure io.weight io.latency io.max pids.max cpu.weight cpu.max cpu.max.burst cpu.uclamp.min cpu.uclamp.max cpuset.cpus cpuset.mems cpuset.cpus.partition")
)

// without returns all names but those that begin with one of some words.
func without(words ...string) []string {
	return slices.DeleteFunc(slices.Clone(all), func(s string) bool {
		return slices.ContainsFunc(words, func(w string) bool { return strings.HasPrefix(s, w) })
	})
}

// names returns the names that the groups have.
func names(id int) []string {
	pressures := []string{"cpu.pressure", "memory.pressure", "io.pressure"}
	switch id {
	case 1:
		return append(strings.Fields("cgroup.procs cgroup.threads cgroup.controllers cgroup.subtree_control cgroup.stat"), pressures...)
	case 2, 6:
		return all
	case 3, 4:
		return append(append(without("memory", "io", "cpu", "pids"), append([]string{"pids.current"}, pressures...)...), "pids.max", "cpu.weight", "cpu.max", "cpu.max.burst", "cpu.uclamp.min", "cpu.uclamp.max")
	case 5:
		return append(without("memory", "io", "cpu", "pids"), pressures...)
	}
	return nil
}

func TestP43_1(t *testing.T) {
	y := base()
	for id := 1; id <= 6; id++ {
		l, e := console.Names(y, id)
		if !eq(l, names(id)) || e != api.OK {
			t.Error(id, l, e)
		}
		path, _ := tree.Path(y.Hierarchy.Tree, id)
		for _, s := range all {
			_, e := console.Read(y, 5, path, s)
			_, f := console.Write(y, 0, path, s, "\x00")
			if want := slices.Contains(l, s); want != (e == api.OK) || want == (f == api.ErrUnknown) {
				t.Error(path, s, e, f)
			}
		}
	}
	for i, x := range []struct {
		y  api.System
		id int
		e  api.Errno
	}{{wrong, 9, api.ErrInvalid}, {y, 9, api.ErrUnknown}, {y, 0, api.ErrUnknown}} {
		if l, e := console.Names(x.y, x.id); l != nil || e != x.e {
			t.Error(i, l, e)
		}
	}
}

func TestP43_2(t *testing.T) {
	y := base()
	zero := "some avg10=0.00 avg60=0.00 avg300=0.00 total=0\nfull avg10=0.00 avg60=0.00 avg300=0.00 total=0\n"
	for _, x := range []struct{ path, file, want string }{
		{"/", "cgroup.procs", "3\n"}, {"/a/b", "cgroup.procs", "1\n"}, {"/a", "cgroup.procs", ""}, {"/a/b", "cgroup.threads", "1\n2\n"}, {"/a/t", "cgroup.threads", "4\n"}, {"/c", "cgroup.threads", ""},
		{"/", "cgroup.controllers", "cpu memory io pids cpuset\n"}, {"/a", "cgroup.controllers", "cpu memory io pids cpuset\n"}, {"/a/b", "cgroup.controllers", "cpu pids\n"}, {"/a/t/x", "cgroup.controllers", "\n"}, {"/", "cgroup.subtree_control", "cpu memory io pids cpuset\n"}, {"/a", "cgroup.subtree_control", "cpu pids\n"}, {"/c", "cgroup.subtree_control", "\n"},
		{"/a", "cgroup.type", "domain threaded\n"}, {"/a/b", "cgroup.type", "domain\n"}, {"/a/t", "cgroup.type", "threaded\n"}, {"/a/t/x", "cgroup.type", "domain invalid\n"}, {"/a", "cgroup.freeze", "0\n"}, {"/a", "cgroup.events", "populated 1\nfrozen 0\n"}, {"/c", "cgroup.events", "populated 0\nfrozen 0\n"}, {"/", "cgroup.stat", "nr_descendants 5\n"}, {"/a", "cgroup.stat", "nr_descendants 3\n"}, {"/c", "cgroup.stat", "nr_descendants 0\n"},
		{"/a", "memory.min", "1\n"}, {"/a", "memory.low", "2\n"}, {"/a", "memory.high", "300\n"}, {"/a", "memory.max", "400\n"}, {"/a", "memory.swap.max", "5\n"}, {"/c", "memory.max", "max\n"}, {"/a", "memory.oom.group", "1\n"}, {"/c", "memory.oom.group", "0\n"}, {"/a", "memory.current", "12\n"}, {"/c", "memory.current", "0\n"}, {"/a", "memory.swap.current", "3\n"}, {"/a", "memory.events", "low 0\nhigh 1\nmax 4\noom 0\noom_kill 0\n"}, {"/a", "memory.events.local", "low 0\nhigh 1\nmax 0\noom 0\noom_kill 0\n"},
		{"/a", "pids.current", "3\n"}, {"/a/b", "pids.current", "2\n"}, {"/a", "cpuset.cpus.effective", "0,3\n"}, {"/c", "cpuset.cpus.effective", "0-1,3\n"}, {"/", "cpu.pressure", zero}, {"/a", "cpu.pressure", strings.Replace(zero, "0.00", "9.05", 1)}, {"/a", "memory.pressure", zero}, {"/a", "io.pressure", zero},
		{"/a", "io.weight", "0 100\n1 50\n"}, {"/a", "io.latency", "0 0\n1 6\n"}, {"/a", "io.max", "0 rpages=max wpages=max rops=max wops=max\n1 rpages=1 wpages=2 rops=max wops=4\n"},
		{"/a", "pids.max", "9\n"}, {"/a", "cpu.max", "500 100000\n"}, {"/a", "cpu.max.burst", "7\n"}, {"/a", "cpuset.cpus", "0,3\n"}, {"/a/t", "cpu.weight", "100\n"}, {"/c", "cpuset.cpus.partition", "member\n"},
	} {
		if s, e := console.Read(y, 9, x.path, x.file); s != x.want || e != api.OK {
			t.Errorf("%s %s: %q %v", x.path, x.file, s, e)
		}
	}
	different := base()
	different.Gauge.Values[4].Some.Long, different.Gauge.Values[5].Some.Mid = 2048, 2048
	if s, _ := console.Read(different, 0, "/a", "memory.pressure"); !strings.Contains(s, "avg300=1.00") {
		t.Error(s)
	}
	if s, _ := console.Read(different, 0, "/a", "io.pressure"); !strings.Contains(s, "avg60=1.00") {
		t.Error(s)
	}
	frozen, _ := estate.Freeze(y, 0, 6, true)
	if s, _ := console.Read(frozen, 0, "/c", "cgroup.events"); s != "populated 0\nfrozen 1\n" {
		t.Error(s)
	}
	if s, _ := console.Read(frozen, 0, "/c", "cgroup.freeze"); s != "1\n" {
		t.Error(s)
	}
	wants, _ := estate.Freeze(y, 0, 2, true)
	if s, _ := console.Read(wants, 0, "/a", "cgroup.freeze"); s != "1\n" {
		t.Error(s)
	}
	bare := base()
	bare.Setup.Devices, bare.Devices = nil, nil
	if s, e := console.Read(bare, 0, "/a", "io.max"); s != "" || e != api.OK {
		t.Error(s, e)
	}
	for i, x := range []struct {
		y          api.System
		user       int
		path, file string
		e          api.Errno
	}{{wrong, 0, "x", "x", api.ErrInvalid}, {y, -1, "x", "x", api.ErrInvalid}, {y, api.MaxUser + 1, "/", "cgroup.procs", api.ErrInvalid}, {y, 0, "/z", "cgroup.procs", api.ErrUnknown}, {y, 0, "a", "cgroup.procs", api.ErrUnknown}, {y, 0, "/a/", "cgroup.procs", api.ErrUnknown}, {y, 0, "/a", "x", api.ErrUnknown}, {y, 0, "/a", "", api.ErrUnknown}, {y, 0, "/", "cpu.weight", api.ErrUnknown}, {y, 0, "/", "cgroup.freeze", api.ErrUnknown}, {y, 0, "/a/b", "memory.max", api.ErrUnknown}, {y, api.MaxUser, "/", "cgroup.procs", api.OK}} {
		if s, e := console.Read(x.y, x.user, x.path, x.file); e != x.e || e != api.OK && s != "" {
			t.Error(i, s, e)
		}
		if z, e := console.Write(x.y, x.user, x.path, x.file, "1"); x.e != api.OK && (e != x.e || !eq(z, empty)) {
			t.Error(i, e)
		}
	}
}

// write writes, and compares with what is expected.
func write(t *testing.T, y api.System, user int, path, file, text string, want api.System, f api.Errno) {
	t.Helper()
	before := fmt.Sprint(y)
	z, e := console.Write(y, user, path, file, text)
	if e != f || !eq(z, want) {
		t.Errorf("%s %s %.40q: %v, not %v\n%v\n%v", path, file, text, e, f, z, want)
	}
	if e == api.OK && !estate.Valid(z) {
		t.Error("not valid", file, text)
	}
	if fmt.Sprint(y) != before {
		t.Error("the argument was changed", file, text)
	}
}

// TestP43_3Acts writes to the files that are no settings.
func TestP43_3Acts(t *testing.T) {
	y := base()
	ok := func(z api.System, e api.Errno) api.System {
		t.Helper()
		if e != api.OK {
			t.Error(e)
		}
		return z
	}
	write(t, y, 0, "/", "cgroup.procs", "1", ok(estate.Move(y, 0, 1, 1)), api.OK)
	write(t, y, 7, "/a", "cgroup.procs", "1\n", ok(estate.Move(y, 7, 1, 2)), api.OK)
	write(t, y, 7, "/a", "cgroup.threads", "4\n", ok(estate.MoveThread(y, 7, 4, 2)), api.OK)
	write(t, y, 0, "/c", "cgroup.procs", "3", ok(estate.Move(y, 0, 3, 6)), api.OK)
	write(t, y, 0, "/", "cgroup.subtree_control", "-cpuset", ok(estate.Control(y, 0, 1, 0, api.Cpuset)), api.OK)
	write(t, y, 7, "/a", "cgroup.subtree_control", " +cpuset   -cpu \n", ok(estate.Control(y, 7, 2, api.Cpuset, api.CPU)), api.OK)
	write(t, y, 7, "/a", "cgroup.subtree_control", "", ok(estate.Control(y, 7, 2, 0, 0)), api.OK)
	write(t, y, 7, "/a/t/x", "cgroup.type", "threaded\n", ok(estate.Convert(y, 7, 5)), api.OK)
	write(t, y, 7, "/a", "cgroup.freeze", "1\n", ok(estate.Freeze(y, 7, 2, true)), api.OK)
	write(t, y, 0, "/c", "cgroup.freeze", "0", y, api.OK)
	long := strings.Repeat(" ", api.MaxText)
	write(t, y, 7, "/a", "cgroup.subtree_control", long, y, api.OK)
	for _, x := range []struct {
		user             int
		path, file, text string
		e                api.Errno
	}{
		{0, "/c", "cgroup.procs", "", api.ErrText}, {0, "/c", "cgroup.procs", "\n", api.ErrText}, {0, "/c", "cgroup.procs", "01", api.ErrText}, {0, "/c", "cgroup.procs", "1\n\n", api.ErrText}, {0, "/c", "cgroup.procs", "1 ", api.ErrText}, {0, "/c", "cgroup.procs", "-1", api.ErrText}, {0, "/c", "cgroup.procs", "+1", api.ErrText}, {0, "/c", "cgroup.procs", "1a", api.ErrText}, {0, "/c", "cgroup.procs", "1234567890", api.ErrText}, {0, "/c", "cgroup.procs", "/", api.ErrText}, {0, "/c", "cgroup.procs", ":", api.ErrText}, {0, "/c", "cgroup.procs", "1K", api.ErrText}, {0, "/c", "cgroup.procs", "max", api.ErrText},
		{0, "/c", "cgroup.procs", "123456789", api.ErrUnknown}, {0, "/c", "cgroup.procs", "0", api.ErrUnknown}, {0, "/c", "cgroup.procs", "2", api.ErrUnknown}, {7, "/c", "cgroup.procs", "1", api.ErrDenied}, {8, "/a/b", "cgroup.procs", "x", api.ErrText}, {0, "/a/t", "cgroup.procs", "3", api.ErrKind}, {0, "/c", "cgroup.threads", "x", api.ErrText}, {0, "/c", "cgroup.threads", "2", api.ErrState}, {0, "/c", "cgroup.threads", "9", api.ErrUnknown}, {8, "/a", "cgroup.threads", "4", api.ErrDenied},
		{0, "/", "cgroup.subtree_control", "cpu", api.ErrText}, {8, "/a", "cgroup.subtree_control", "x", api.ErrText}, {8, "/a", "cgroup.subtree_control", "+cpu", api.ErrDenied}, {0, "/a/b", "cgroup.subtree_control", "+memory", api.ErrState}, {0, "/", "cgroup.subtree_control", "-cpu", api.ErrState}, {0, "/a/t/x", "cgroup.subtree_control", "+cpu", api.ErrState},
		{0, "/a/t/x", "cgroup.type", "domain", api.ErrText}, {0, "/a/t/x", "cgroup.type", "Threaded", api.ErrText}, {0, "/a/t/x", "cgroup.type", "threaded ", api.ErrText}, {0, "/a/t/x", "cgroup.type", "", api.ErrText}, {0, "/a/t", "cgroup.type", "threaded", api.ErrState}, {7, "/a", "cgroup.type", "threaded", api.ErrDenied}, {0, "/a/b", "cgroup.type", "threaded", api.ErrBusy},
		{0, "/a", "cgroup.freeze", "2", api.ErrText}, {0, "/a", "cgroup.freeze", "", api.ErrText}, {0, "/a", "cgroup.freeze", "01", api.ErrText}, {8, "/a", "cgroup.freeze", "x", api.ErrText}, {8, "/a", "cgroup.freeze", "1", api.ErrDenied},
		{0, "/", "cgroup.controllers", long + "x", api.ErrKind}, {8, "/a", "cgroup.events", "1", api.ErrKind}, {0, "/", "cgroup.stat", "1", api.ErrKind}, {8, "/a", "memory.current", long + "x", api.ErrKind}, {0, "/a", "memory.swap.current", "1", api.ErrKind}, {0, "/a", "memory.events", "1", api.ErrKind}, {0, "/a", "memory.events.local", "1", api.ErrKind}, {0, "/a", "pids.current", "1", api.ErrKind}, {0, "/a", "cpuset.cpus.effective", "1", api.ErrKind}, {0, "/", "cpu.pressure", "1", api.ErrKind}, {0, "/a", "memory.pressure", "1", api.ErrKind}, {0, "/a", "io.pressure", "1", api.ErrKind},
		{8, "/a", "cgroup.freeze", long + "x", api.ErrLimit}, {8, "/a", "memory.max", long + "x", api.ErrLimit}, {8, "/a", "cpu.weight", long + "\n", api.ErrLimit}, {0, "/a", "cgroup.subtree_control", long + "\n", api.ErrLimit},
	} {
		write(t, y, x.user, x.path, x.file, x.text, empty, x.e)
	}
}

// TestP43_3Settings writes to the files that are settings.
func TestP43_3Settings(t *testing.T) {
	y := base()
	for _, x := range []struct {
		path, file, text string
		change           func(*api.Settings)
	}{
		{"/a", "memory.min", "4K\n", func(s *api.Settings) { s.Memory.Min = 4096 }}, {"/a", "memory.low", "7", func(s *api.Settings) { s.Memory.Low = 7 }}, {"/a", "memory.high", "max", func(s *api.Settings) { s.Memory.High = api.Max }}, {"/a", "memory.max", "1T", func(s *api.Settings) { s.Memory.Max = api.MaxValue }}, {"/a", "memory.max", "5", func(s *api.Settings) { s.Memory.Max = 5 }}, {"/a", "memory.swap.max", "0", func(s *api.Settings) { s.Memory.SwapMax = 0 }}, {"/a", "memory.oom.group", "0\n", func(s *api.Settings) { s.Memory.Together = false }}, {"/c", "memory.oom.group", "1", func(s *api.Settings) { s.Memory.Together = true }},
		{"/a", "cpu.weight", "77\n", func(s *api.Settings) { s.Weight = 77 }}, {"/a", "cpu.max", "6 900", func(s *api.Settings) { s.Quota, s.Period, s.Burst = 6, 900, 0 }}, {"/a/t", "pids.max", "5", func(s *api.Settings) { s.PidsMax = 5 }}, {"/c", "cpuset.cpus", "0-1\n", func(s *api.Settings) { s.Cpus = []int{0, 1} }}, {"/c", "cpuset.cpus", "", func(s *api.Settings) { s.Cpus = nil }},
		{"/a", "io.weight", "1 300\n", func(s *api.Settings) { s.Devices[0].Weight = 300 }}, {"/a", "io.weight", "0 1K", func(s *api.Settings) {
			s.Devices = append([]api.DeviceSettings{{Weight: 1024, ReadPages: api.Max, WritePages: api.Max, ReadOps: api.Max, WriteOps: api.Max}}, s.Devices...)
		}}, {"/a", "io.weight", "0 100", func(s *api.Settings) {}}, {"/c", "io.weight", "1 100", func(s *api.Settings) {}}, {"/a", "io.latency", "1 0", func(s *api.Settings) { s.Devices[0].Target = 0 }}, {"/c", "io.latency", "1 9", func(s *api.Settings) {
			s.Devices = []api.DeviceSettings{{Device: 1, Weight: 100, ReadPages: api.Max, WritePages: api.Max, ReadOps: api.Max, WriteOps: api.Max, Target: 9}}
		}},
		{"/a", "io.max", "1 rpages=10", func(s *api.Settings) { s.Devices[0].ReadPages = 10 }}, {"/a", "io.max", "1 wops=1K rpages=max rops=3 wpages=8\n", func(s *api.Settings) {
			s.Devices[0].ReadPages, s.Devices[0].WritePages, s.Devices[0].ReadOps, s.Devices[0].WriteOps = api.Max, 8, 3, 1024
		}}, {"/c", "io.max", "0 rops=max", func(s *api.Settings) {}}, {"/c", "io.max", "0 rops=9", func(s *api.Settings) {
			s.Devices = []api.DeviceSettings{{Weight: 100, ReadPages: api.Max, WritePages: api.Max, ReadOps: 9, WriteOps: api.Max}}
		}},
	} {
		id, _ := tree.Lookup(y.Hierarchy.Tree, x.path)
		s := settings.Get(y.Configs, id)
		x.change(&s)
		want, e := estate.Set(y, 0, id, s)
		if e != api.OK {
			t.Error(x, e)
		}
		write(t, y, 0, x.path, x.file, x.text, want, api.OK)
	}
	// Settings of the device that is written are dropped, if they are those of a device without settings; others are kept.
	odd := copies.System(y)
	plain := api.DeviceSettings{Weight: 100, ReadPages: api.Max, WritePages: api.Max, ReadOps: api.Max, WriteOps: api.Max}
	odd.Configs[5].Settings.Devices = []api.DeviceSettings{plain, {Device: 1, Weight: 7, ReadPages: api.Max, WritePages: api.Max, ReadOps: api.Max, WriteOps: api.Max}, {Device: 5, Weight: 7, ReadPages: 1, WritePages: 1, ReadOps: 1, WriteOps: 1}}
	if z, e := console.Write(odd, 0, "/c", "io.weight", "1 100"); e != api.OK || !eq(z.Configs[5].Settings.Devices, []api.DeviceSettings{plain, odd.Configs[5].Settings.Devices[2]}) {
		t.Error(z.Configs[5], e)
	}
	for _, x := range []struct {
		user             int
		path, file, text string
		e                api.Errno
	}{
		{7, "/a", "memory.max", "x", api.ErrDenied}, {7, "/c", "cpu.weight", "x", api.ErrDenied}, {8, "/a/b", "cpu.weight", "5", api.ErrDenied}, {7, "/a", "io.max", "x", api.ErrDenied}, {7, "/a", "io.latency", "x", api.ErrDenied}, {7, "/a", "cpu.max", "x", api.ErrDenied}, {7, "/a", "io.weight", "x", api.ErrDenied}, {7, "/a", "memory.oom.group", "x", api.ErrDenied}, {7, "/a", "cpu.max", "5", api.ErrDenied},
		{0, "/a", "memory.max", "", api.ErrText}, {0, "/a", "memory.max", "5\n\n", api.ErrText}, {0, "/a", "memory.max", "2T", api.ErrRange}, {0, "/a", "memory.min", "-1", api.ErrText}, {0, "/a", "memory.swap.max", "1 ", api.ErrText}, {0, "/a", "memory.oom.group", "", api.ErrText}, {0, "/a", "memory.oom.group", "2", api.ErrText}, {0, "/a", "memory.oom.group", "1\n\n", api.ErrText},
		{0, "/a", "cpu.weight", "0", api.ErrRange}, {0, "/a", "cpu.weight", "max", api.ErrText}, {0, "/a", "cpu.weight", "5\n\n", api.ErrText}, {7, "/a/t", "cpu.weight", "0", api.ErrRange}, {0, "/a", "cpu.max", "5 6 7", api.ErrText}, {0, "/a", "cpuset.cpus", "16", api.ErrRange},
		{0, "/a", "io.weight", "", api.ErrText}, {0, "/a", "io.weight", "0", api.ErrText}, {0, "/a", "io.weight", "0 ", api.ErrText}, {0, "/a", "io.weight", " 5", api.ErrText}, {0, "/a", "io.weight", "0  5", api.ErrText}, {0, "/a", "io.weight", "0 5 6", api.ErrText}, {0, "/a", "io.weight", "00 5", api.ErrText}, {0, "/a", "io.weight", "x 5", api.ErrText}, {0, "/a", "io.weight", "0 x", api.ErrText}, {0, "/a", "io.weight", "0 max", api.ErrText}, {0, "/a", "io.weight", "9 max", api.ErrText}, {0, "/a", "io.weight", "9 2T", api.ErrRange}, {0, "/a", "io.weight", "9 x", api.ErrText}, {0, "/a", "io.weight", "2 5", api.ErrUnknown}, {0, "/a", "io.weight", "999999999 5", api.ErrUnknown}, {0, "/a", "io.weight", "1000000000 5", api.ErrText}, {0, "/a", "io.weight", "x 2T", api.ErrText}, {0, "/a", "io.weight", "0 2T 5", api.ErrText}, {0, "/a", "io.weight", "0 0", api.ErrRange}, {0, "/a", "io.weight", "0 10001", api.ErrRange}, {0, "/a", "io.weight", "2 0", api.ErrUnknown},
		{0, "/a", "io.latency", "0 max", api.ErrText}, {0, "/a", "io.latency", "5 1", api.ErrUnknown}, {0, "/a", "io.latency", "0 1048577", api.ErrRange}, {0, "/a", "io.latency", "1", api.ErrText},
		{0, "/a", "io.max", "", api.ErrText}, {0, "/a", "io.max", "0", api.ErrText}, {0, "/a", "io.max", "0 ", api.ErrText}, {0, "/a", "io.max", "rpages=10", api.ErrText}, {0, "/a", "io.max", "0 rpages", api.ErrText}, {0, "/a", "io.max", "0 rpages=1=2", api.ErrText}, {0, "/a", "io.max", "0 rpages==2", api.ErrText}, {0, "/a", "io.max", "0 rpage=1", api.ErrText}, {0, "/a", "io.max", "0 RPAGES=1", api.ErrText}, {0, "/a", "io.max", "0 =1", api.ErrText}, {0, "/a", "io.max", "0  rpages=1", api.ErrText}, {0, "/a", "io.max", "0 rpages=1 ", api.ErrText}, {0, "/a", "io.max", "0 rpages=x", api.ErrText}, {0, "/a", "io.max", "0 rpages=", api.ErrText}, {0, "/a", "io.max", "0 rpages=2T", api.ErrRange}, {0, "/a", "io.max", "0 rpages=2T wpages=x", api.ErrRange}, {0, "/a", "io.max", "0 rpages=x wpages=2T", api.ErrText}, {0, "/a", "io.max", "0 rpages=2T foo=1", api.ErrText}, {0, "/a", "io.max", "0 rpages=2T wpages=1=2", api.ErrText}, {0, "/a", "io.max", "0 wpages=2T rpages", api.ErrText}, {0, "/a", "io.max", "9 rpages=2T", api.ErrRange}, {0, "/a", "io.max", "9 rpages=1 rpages=1", api.ErrUnknown}, {0, "/a", "io.max", "9 rpages=1", api.ErrUnknown}, {0, "/a", "io.max", "0 rpages=1 rpages=1", api.ErrText}, {0, "/a", "io.max", "0 rops=1 wops=5 rops=1", api.ErrText}, {0, "/a", "io.max", "0 rops=2T rops=1", api.ErrRange}, {0, "/a", "io.max", "0 rpages=0", api.ErrRange}, {0, "/a", "io.max", "2 rpages=1", api.ErrUnknown}, {0, "/a", "io.max", "0 rops=0 rops=0", api.ErrText},
	} {
		write(t, y, x.user, x.path, x.file, x.text, empty, x.e)
	}
	if z, e := console.Write(y, 7, "/a/t", "cpu.weight", "5"); e != api.OK || z.Configs[3].Settings.Weight != 5 {
		t.Error(e)
	}
}

func TestP43_4(t *testing.T) {
	y := base()
	deep := strings.Repeat("/n", 9)
	for i, x := range []struct {
		y    api.System
		user int
		path string
		want func() (api.System, api.Errno)
		e    api.Errno
	}{
		{y, 0, "/new", func() (api.System, api.Errno) { z, _, e := estate.Create(y, 0, 1, "new"); return z, e }, api.OK}, {y, 7, "/a/b/new", func() (api.System, api.Errno) { z, _, e := estate.Create(y, 7, 3, "new"); return z, e }, api.OK},
		{wrong, 0, "x", nil, api.ErrInvalid}, {y, -1, "x", nil, api.ErrInvalid}, {y, api.MaxUser + 1, "/new", nil, api.ErrInvalid}, {y, 0, "", nil, api.ErrText}, {y, 0, "/", nil, api.ErrText}, {y, 0, "new", nil, api.ErrText}, {y, 0, "/new/", nil, api.ErrText}, {y, 0, "/-", nil, api.ErrText}, {y, 0, deep, nil, api.ErrText}, {y, 9, "/z/new", nil, api.ErrUnknown}, {y, 0, "/a/z/new", nil, api.ErrUnknown}, {y, 7, "/new", nil, api.ErrDenied}, {y, 7, "/a/b", nil, api.ErrExists}, {y, 0, "/a", nil, api.ErrExists},
	} {
		z, e := console.Make(x.y, x.user, x.path)
		var want api.System
		if x.e == api.OK {
			want, _ = x.want()
		}
		if e != x.e || !eq(z, want) {
			t.Error(i, e)
		}
	}
	for i, x := range []struct {
		y    api.System
		user int
		path string
		id   int
		e    api.Errno
	}{
		{y, 0, "/c", 6, api.OK}, {y, 7, "/a/t/x", 5, api.OK}, {wrong, 0, "x", 0, api.ErrInvalid}, {y, -1, "x", 0, api.ErrInvalid}, {y, 0, "c", 0, api.ErrText}, {y, 0, "/c/", 0, api.ErrText}, {y, 0, deep, 0, api.ErrText}, {y, 9, "/z", 0, api.ErrUnknown}, {y, 7, "/c", 0, api.ErrDenied}, {y, 7, "/a", 0, api.ErrDenied}, {y, 0, "/", 0, api.ErrState}, {y, 7, "/", 0, api.ErrDenied}, {y, 0, "/a", 0, api.ErrBusy}, {y, 7, "/a/b", 0, api.ErrBusy},
	} {
		z, e := console.Erase(x.y, x.user, x.path)
		var want api.System
		if x.e == api.OK {
			want, _ = estate.Remove(x.y, x.user, x.id)
		}
		if e != x.e || !eq(z, want) {
			t.Error(i, e)
		}
	}
}

// TestConsequences: what is read from a file of settings can be written back, and users other than 0 change nothing but what they may.
func TestConsequences(t *testing.T) {
	y := base()
	for _, n := range y.Hierarchy.Tree.Nodes[1:] {
		path, _ := tree.Path(y.Hierarchy.Tree, n.ID)
		for _, f := range names(n.ID) {
			text, _ := console.Read(y, 0, path, f)
			_, plain := files.Controller(f)
			if !plain && !strings.HasPrefix(f, "memory.") && !strings.HasPrefix(f, "io.") {
				continue
			}
			lines := []string{text}
			if strings.HasPrefix(f, "io.") {
				lines = strings.SplitAfter(strings.TrimSuffix(text, "\n"), "\n")
			}
			for _, s := range lines {
				if z, e := console.Write(y, 0, path, f, s); e != api.ErrKind && (e != api.OK || !eq(z, y)) {
					t.Errorf("%s %s %q %v", path, f, s, e)
				}
			}
		}
	}
	r := rand.New(rand.NewSource(45))
	paths := []string{"/", "/a", "/a/b", "/a/t", "/a/t/x", "/c", "/a/n", "/a/b/n", "/n"}
	texts := []string{"1", "2", "3", "4", "0", "max", "threaded", "+cpu", "-cpu", "+memory", "5 6", "0-1", "0 rops=5", "1 7", "member", "root", "12"}
	done := 0
	for i := 0; i < 2500; i++ {
		path := paths[r.Intn(len(paths))]
		var z api.System
		var e api.Errno
		switch r.Intn(12) {
		case 0:
			z, e = console.Make(y, 7, path)
		case 1:
			z, e = console.Erase(y, 7, path)
		default:
			z, e = console.Write(y, 7, path, all[r.Intn(len(all))], texts[r.Intn(len(texts))])
		}
		if e != api.OK {
			continue
		}
		done++
		if !estate.Valid(z) || !threaded.Fits(z.Hierarchy) {
			t.Fatal(z)
		}
		for k, n := range y.Hierarchy.Tree.Nodes {
			after, ok := tree.Find(z.Hierarchy.Tree, n.ID)
			if delegate.Full(y.Hierarchy.Tree, 7, n.ID) {
				continue
			}
			if delegate.Enter(y.Hierarchy.Tree, 7, n.ID) {
				n.Control, after.Control = 0, 0
			} else if freeze.Get(y.Freezer, n.ID).Want != freeze.Get(z.Freezer, n.ID).Want {
				t.Fatal(n)
			}
			if !ok || n != after || !settings.Same(y.Configs[k].Settings, settings.Get(z.Configs, n.ID)) {
				t.Fatal(n, after)
			}
		}
		y = z
	}
	if done < 100 {
		t.Error(done)
	}
}

// TestExample plays the examples of chapter 43.
func TestExample(t *testing.T) {
	y := base()
	y, _ = console.Write(y, 0, "/", "cgroup.subtree_control", "+memory")
	y, _ = console.Write(y, 0, "/a", "memory.max", "4K")
	if s, e := console.Read(y, 0, "/a", "memory.max"); s != "4096\n" || e != api.OK {
		t.Error(s, e)
	}
	if _, e := console.Write(y, 7, "/a", "cgroup.freeze", "1"); e != api.OK {
		t.Error(e)
	}
	if _, e := console.Write(y, 7, "/a", "memory.max", "max"); e != api.ErrDenied {
		t.Error(e)
	}
}
