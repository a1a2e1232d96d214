package files_test

import (
	"fmt"
	"math/rand"
	"slices"
	"strings"
	"testing"

	"groupcontrol/api"
	"groupcontrol/files"
	"groupcontrol/settings"
)

func eq(a, b any) bool { return fmt.Sprint(a) == fmt.Sprint(b) }

var all = []string{"pids.max", "cpu.weight", "cpu.max", "cpu.max.burst", "cpu.uclamp.min", "cpu.uclamp.max", "cpuset.cpus", "cpuset.mems", "cpuset.cpus.partition"}

// TestP12_1 goes through the table: each file belongs to its controller, and sets its own field.
func TestP12_1(t *testing.T) {
	for _, x := range []struct {
		file       string
		controller int
		text       string
		set        func(*api.Settings)
	}{
		{"pids.max", api.Pids, "7", func(s *api.Settings) { s.PidsMax = 7 }}, {"cpu.weight", api.CPU, "8", func(s *api.Settings) { s.Weight = 8 }}, {"cpu.max", api.CPU, "600 900", func(s *api.Settings) { s.Quota, s.Period = 600, 900 }}, {"cpu.max.burst", api.CPU, "9", func(s *api.Settings) { s.Burst = 9 }}, {"cpu.uclamp.min", api.CPU, "0.5", func(s *api.Settings) { s.ClampMin = 50 }}, {"cpu.uclamp.max", api.CPU, "0.6", func(s *api.Settings) { s.ClampMax = 60 }},
		{"cpuset.cpus", api.Cpuset, "15", func(s *api.Settings) { s.Cpus = []int{15} }}, {"cpuset.mems", api.Cpuset, "7", func(s *api.Settings) { s.Mems = []int{7} }}, {"cpuset.cpus.partition", api.Cpuset, "member", func(s *api.Settings) { s.Partition = api.PartitionMember }},
	} {
		want := base()
		x.set(&want)
		if s, e := files.Write(base(), x.file, x.text); e != api.OK || !eq(s, want) {
			t.Error(x.file, s, e)
		}
		for bit := 1; bit < 64; bit *= 2 {
			if has := slices.Contains(files.Names(false, bit), x.file); has != (bit == x.controller) || slices.Contains(files.Names(true, bit), x.file) {
				t.Error(x.file, bit)
			}
		}
	}
}

func TestP12_2(t *testing.T) {
	cpu, set := all[1:6], all[6:]
	for acting, want := range map[int][]string{0: nil, api.CPU: cpu, api.Pids: all[:1], api.Cpuset: set, api.CPU | api.Pids: all[:6], api.Memory | api.IO: nil, 31: all, -1: all, 1 << 40: nil, 1<<40 | api.Cpuset: set, api.CPU | api.Cpuset: all[1:]} {
		if l := files.Names(false, acting); !eq(l, want) {
			t.Error(acting, l)
		}
		if l := files.Names(true, acting); len(l) != 0 {
			t.Error(acting, l)
		}
	}
	for i, s := range all {
		want := api.CPU
		if i == 0 {
			want = api.Pids
		}
		if i >= 6 {
			want = api.Cpuset
		}
		if c, ok := files.Controller(s); c != want || !ok {
			t.Error(s, c, ok)
		}
	}
	for _, s := range []string{"", "pids", "pids.max ", "PIDS.MAX", "memory.max", "cpu", "cpuset.cpus.effective", "cgroup.procs"} {
		if c, ok := files.Controller(s); c != 0 || ok {
			t.Error(s, c, ok)
		}
	}
	for s, want := range map[string]string{"": "", "\n": "", "\n\n": "\n", "a": "a", "a\n": "a", "a\n\n": "a\n", "\na": "\na", "a\nb": "a\nb", "a\r\n": "a\r"} {
		if got := files.Line(s); got != want {
			t.Errorf("Line(%q) = %q", s, got)
		}
	}
}

// base returns settings of which each field is set.
func base() api.Settings {
	s := settings.Default()
	s.PidsMax, s.Weight, s.Quota, s.Period, s.Burst, s.ClampMin, s.ClampMax, s.Cpus, s.Mems, s.Partition = 5, 200, 1000, 2000, 500, 105, 9950, []int{0, 1, 2, 5}, []int{1}, api.PartitionRoot
	s.Memory.Max, s.Devices = 9, []api.DeviceSettings{{Device: 1, Weight: 5, ReadPages: 1, WritePages: 1, ReadOps: 1, WriteOps: 1}}
	return s
}

func TestP12_3(t *testing.T) {
	bad := base()
	bad.Memory.Max = -1
	plain := map[string]string{"pids.max": "max\n", "cpu.weight": "100\n", "cpu.max": "max 100000\n", "cpu.max.burst": "0\n", "cpu.uclamp.min": "0.00\n", "cpu.uclamp.max": "max\n", "cpuset.cpus": "\n", "cpuset.mems": "\n", "cpuset.cpus.partition": "member\n"}
	set := map[string]string{"pids.max": "5\n", "cpu.weight": "200\n", "cpu.max": "1000 2000\n", "cpu.max.burst": "500\n", "cpu.uclamp.min": "1.05\n", "cpu.uclamp.max": "99.50\n", "cpuset.cpus": "0-2,5\n", "cpuset.mems": "1\n", "cpuset.cpus.partition": "root\n"}
	for _, f := range all {
		if s, e := files.Read(settings.Default(), f); s != plain[f] || e != api.OK {
			t.Errorf("%s: %q %v", f, s, e)
		}
		if s, e := files.Read(base(), f); s != set[f] || e != api.OK {
			t.Errorf("%s: %q %v", f, s, e)
		}
		if s, e := files.Read(bad, f); s != "" || e != api.ErrInvalid {
			t.Errorf("%s: %q %v", f, s, e)
		}
	}
	for _, f := range []string{"", "memory.max", "cpu.max\n"} {
		if s, e := files.Read(bad, f); s != "" || e != api.ErrUnknown {
			t.Errorf("%s: %q %v", f, s, e)
		}
	}
}

func TestP12_4(t *testing.T) {
	bad := base()
	bad.Memory.Max = -1
	free := base()
	free.Quota, free.Burst = api.Max, 0
	long := strings.Repeat("0", api.MaxText)
	set := func(s api.Settings, change func(*api.Settings)) api.Settings {
		change(&s)
		return s
	}
	for i, x := range []struct {
		s          api.Settings
		file, text string
		want       func(*api.Settings)
		e          api.Errno
	}{
		{base(), "pids.max", "7", func(s *api.Settings) { s.PidsMax = 7 }, api.OK}, {base(), "pids.max", "max\n", func(s *api.Settings) { s.PidsMax = api.Max }, api.OK}, {base(), "pids.max", "1K\n", func(s *api.Settings) { s.PidsMax = 1024 }, api.OK}, {base(), "pids.max", "0", func(s *api.Settings) { s.PidsMax = 0 }, api.OK}, {base(), "pids.max", long, func(s *api.Settings) { s.PidsMax = 0 }, api.OK}, {base(), "pids.max", "1T", func(s *api.Settings) { s.PidsMax = api.MaxValue }, api.OK},
		{base(), "pids.max", "2T", nil, api.ErrRange}, {base(), "pids.max", "", nil, api.ErrText}, {base(), "pids.max", "\n", nil, api.ErrText}, {base(), "pids.max", "7\n\n", nil, api.ErrText}, {base(), "pids.max", " 7", nil, api.ErrText}, {base(), "pids.max", "-1", nil, api.ErrText}, {base(), "pids.max", long + "\n", nil, api.ErrLimit}, {base(), "pids.max", long + "x", nil, api.ErrLimit},
		{base(), "cpu.weight", "1\n", func(s *api.Settings) { s.Weight = 1 }, api.OK}, {base(), "cpu.weight", "10000", func(s *api.Settings) { s.Weight = 10000 }, api.OK}, {base(), "cpu.weight", "2K", func(s *api.Settings) { s.Weight = 2048 }, api.OK}, {base(), "cpu.weight", "0", nil, api.ErrRange}, {base(), "cpu.weight", "10001", nil, api.ErrRange}, {base(), "cpu.weight", "2T", nil, api.ErrRange}, {base(), "cpu.weight", "max", nil, api.ErrText}, {base(), "cpu.weight", "a", nil, api.ErrText},
		{base(), "cpu.max", "50000", func(s *api.Settings) { s.Quota = 50000 }, api.OK}, {base(), "cpu.max", "600 700\n", func(s *api.Settings) { s.Quota, s.Period = 600, 700 }, api.OK}, {base(), "cpu.max", "500", func(s *api.Settings) { s.Quota = 500 }, api.OK}, {base(), "cpu.max", "499", func(s *api.Settings) { s.Quota, s.Burst = 499, 0 }, api.OK}, {base(), "cpu.max", "max", func(s *api.Settings) { s.Quota, s.Burst = api.Max, 0 }, api.OK}, {base(), "cpu.max", "max 1", func(s *api.Settings) { s.Quota, s.Burst, s.Period = api.Max, 0, 1 }, api.OK}, {free, "cpu.max", "1 1000000", func(s *api.Settings) { s.Quota, s.Period = 1, 1000000 }, api.OK},
		{base(), "cpu.max", "0", nil, api.ErrRange}, {base(), "cpu.max", "1000001", nil, api.ErrRange}, {base(), "cpu.max", "5 0", nil, api.ErrRange}, {base(), "cpu.max", "5 1000001", nil, api.ErrRange}, {base(), "cpu.max", "5 2T", nil, api.ErrRange}, {base(), "cpu.max", "2T x", nil, api.ErrRange}, {base(), "cpu.max", "2T max", nil, api.ErrRange},
		{base(), "cpu.max", "", nil, api.ErrText}, {base(), "cpu.max", " ", nil, api.ErrText}, {base(), "cpu.max", "5 ", nil, api.ErrText}, {base(), "cpu.max", " 5", nil, api.ErrText}, {base(), "cpu.max", "5  6", nil, api.ErrText}, {base(), "cpu.max", "5 6 7", nil, api.ErrText}, {base(), "cpu.max", "5 6 ", nil, api.ErrText}, {base(), "cpu.max", "2T 6 7", nil, api.ErrText}, {base(), "cpu.max", "2T ", nil, api.ErrText}, {base(), "cpu.max", "x 6", nil, api.ErrText}, {base(), "cpu.max", "5 x", nil, api.ErrText}, {base(), "cpu.max", "5 max", nil, api.ErrText}, {base(), "cpu.max", "max max", nil, api.ErrText}, {base(), "cpu.max", "0 max", nil, api.ErrText}, {base(), "cpu.max", "5\t6", nil, api.ErrText},
		{base(), "cpu.max.burst", "1000", func(s *api.Settings) { s.Burst = 1000 }, api.OK}, {base(), "cpu.max.burst", "0\n", func(s *api.Settings) { s.Burst = 0 }, api.OK}, {free, "cpu.max.burst", "0", func(s *api.Settings) {}, api.OK}, {base(), "cpu.max.burst", "1001", nil, api.ErrRange}, {free, "cpu.max.burst", "1", nil, api.ErrRange}, {base(), "cpu.max.burst", "max", nil, api.ErrText}, {free, "cpu.max.burst", "max", nil, api.ErrText},
		{base(), "cpu.uclamp.min", "12.5", func(s *api.Settings) { s.ClampMin = 1250 }, api.OK}, {base(), "cpu.uclamp.min", "max\n", func(s *api.Settings) { s.ClampMin = 10000 }, api.OK}, {base(), "cpu.uclamp.min", "0", func(s *api.Settings) { s.ClampMin = 0 }, api.OK}, {base(), "cpu.uclamp.min", "100.01", nil, api.ErrRange}, {base(), "cpu.uclamp.min", "1.234", nil, api.ErrText}, {base(), "cpu.uclamp.min", "1K", nil, api.ErrText},
		{base(), "cpu.uclamp.max", "0.01", func(s *api.Settings) { s.ClampMax = 1 }, api.OK}, {base(), "cpu.uclamp.max", "max", func(s *api.Settings) { s.ClampMax = 10000 }, api.OK}, {base(), "cpu.uclamp.max", "101", nil, api.ErrRange}, {base(), "cpu.uclamp.max", "", nil, api.ErrText},
		{base(), "cpuset.cpus", "3,1-2", func(s *api.Settings) { s.Cpus = []int{1, 2, 3} }, api.OK}, {base(), "cpuset.cpus", "", func(s *api.Settings) { s.Cpus = nil }, api.OK}, {base(), "cpuset.cpus", "\n", func(s *api.Settings) { s.Cpus = nil }, api.OK}, {base(), "cpuset.cpus", "0-15\n", func(s *api.Settings) { s.Cpus = []int{0, 1, 2, 3, 4, 5, 6, 7, 8, 9, 10, 11, 12, 13, 14, 15} }, api.OK}, {base(), "cpuset.cpus", "16", nil, api.ErrRange}, {base(), "cpuset.cpus", "2-1", nil, api.ErrText}, {base(), "cpuset.cpus", "max", nil, api.ErrText},
		{base(), "cpuset.mems", "7,0", func(s *api.Settings) { s.Mems = []int{0, 7} }, api.OK}, {base(), "cpuset.mems", "", func(s *api.Settings) { s.Mems = nil }, api.OK}, {base(), "cpuset.mems", "8", nil, api.ErrRange}, {base(), "cpuset.mems", "0,", nil, api.ErrText},
		{base(), "cpuset.cpus.partition", "member", func(s *api.Settings) { s.Partition = api.PartitionMember }, api.OK}, {settings.Default(), "cpuset.cpus.partition", "root", func(s *api.Settings) { s.Partition = api.PartitionRoot }, api.OK}, {free, "cpuset.cpus.partition", "root\n", func(s *api.Settings) { s.Partition = api.PartitionRoot }, api.OK}, {base(), "cpuset.cpus.partition", "", nil, api.ErrText}, {base(), "cpuset.cpus.partition", "Root", nil, api.ErrText}, {base(), "cpuset.cpus.partition", "isolated", nil, api.ErrText}, {base(), "cpuset.cpus.partition", "root ", nil, api.ErrText},
		{bad, "memory.max", long + "x", nil, api.ErrUnknown}, {base(), "", "1", nil, api.ErrUnknown}, {bad, "pids.max", long + "x", nil, api.ErrInvalid}, {bad, "pids.max", "5", nil, api.ErrInvalid}, {bad, "cpu.max", "", nil, api.ErrInvalid},
	} {
		before := fmt.Sprint(x.s)
		s, e := files.Write(x.s, x.file, x.text)
		var want api.Settings
		if x.e == api.OK {
			want = set(x.s, x.want)
		}
		if e != x.e || !eq(s, want) {
			t.Errorf("%d: %s %.30q: %v %v", i, x.file, x.text, s, e)
		}
		for _, l := range [][]int{s.Cpus, s.Mems} {
			for k := range l {
				l[k] = 99
			}
		}
		for k := range s.Devices {
			s.Devices[k].Weight = 99
		}
		if fmt.Sprint(x.s) != before {
			t.Error(i, "memory is shared")
		}
	}
}

// TestConsequences: writing what was read changes nothing, and a file changes its own fields only.
func TestConsequences(t *testing.T) {
	r := rand.New(rand.NewSource(12))
	texts := []string{"0", "5", "99", "700 900", "max", "1-3", "2", "0.5", "root", "member", "", "1K", "77.77\n"}
	s := base()
	for i := 0; i < 5000; i++ {
		f := all[r.Intn(len(all))]
		n, e := files.Write(s, f, texts[r.Intn(len(texts))])
		if e != api.OK {
			continue
		}
		for _, g := range all {
			a, _ := files.Read(s, g)
			b, _ := files.Read(n, g)
			if g != f && a != b && !(f == "cpu.max" && g == "cpu.max.burst") {
				t.Fatal(f, g, a, b)
			}
			if back, e := files.Write(n, g, b); e != api.OK || !settings.Same(back, n) {
				t.Fatal(g, b, e)
			}
		}
		s = n
	}
}
