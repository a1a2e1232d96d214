package script_test

import (
	"fmt"
	"math/rand"
	"slices"
	"strings"
	"testing"

	"groupcontrol/api"
	"groupcontrol/console"
	"groupcontrol/copies"
	"groupcontrol/estate"
	"groupcontrol/machine"
	"groupcontrol/paging"
	"groupcontrol/script"
)

func eq(a, b any) bool { return fmt.Sprint(a) == fmt.Sprint(b) }

type acts = []api.Act

// base has /a (2, of the user 7) with one task of a program that computes; the programs are {compute 5}, {alloc 3, sleep 9} and {sleep 2}.
func base() api.World {
	s := api.Setup{Machine: api.Machine{Domains: []int{0}}, Online: []int{0}, Slice: 3, Pages: 100, SwapSize: 50, Period: 10, Devices: []api.DeviceConfig{{Speed: 10}}}
	w, e := machine.New(s, []api.Program{{Steps: []api.Step{{Kind: api.StepCompute, N: 5}}}, {Steps: []api.Step{{Kind: api.StepAlloc, N: 3}, {Kind: api.StepSleep, N: 9}}}, {Steps: []api.Step{{Kind: api.StepSleep, N: 2}}}})
	if e != api.OK {
		panic(e)
	}
	w.System, _ = console.Make(w.System, 0, "/a")
	w.System, _ = estate.Grant(w.System, 0, 2, 7)
	w.System, _ = estate.Control(w.System, 0, 1, api.AllControllers, 0)
	w, _, _ = machine.Spawn(w, 2, 7, 0)
	return w
}

// loose is base with a runner of a task that is gone.
func loose() api.World {
	w := base()
	w.Runners = append(w.Runners, api.Runner{Task: 9, Program: 2})
	return w
}

// compare does an act, and compares with what is expected.
func compare(t *testing.T, i any, w api.World, a api.Act, want api.World, outcome api.Outcome) {
	t.Helper()
	before := fmt.Sprint(w)
	next, o := script.Do(w, a)
	if o != outcome || !eq(next, want) {
		t.Errorf("%v %v: %v\n%v\n%v", i, a, o, next, want)
	}
	for k := range next.Runners {
		next.Runners[k].Task = 99
	}
	for k := range next.Programs {
		next.Programs[k].Steps[0].N = 99
	}
	for k := range next.System.Hierarchy.Tasks {
		next.System.Hierarchy.Tasks[k].ID = 99
	}
	if fmt.Sprint(w) != before {
		t.Error(i, "memory is shared")
	}
}

func TestP45_1(t *testing.T) {
	w := base()
	system := func(y api.System, e api.Errno) api.World {
		if e != api.OK {
			t.Error(e)
		}
		next := copies.World(w)
		next.System = y
		return next
	}
	fail := func(e api.Errno) api.Outcome { return api.Outcome{Err: e} }
	compare(t, "write", w, api.Act{Kind: api.ActWrite, User: 0, Path: "/a", File: "cpu.weight", Text: "7\n"}, system(console.Write(w.System, 0, "/a", "cpu.weight", "7\n")), api.Outcome{})
	compare(t, "make", w, api.Act{Kind: api.ActMake, User: 7, Path: "/a/b"}, system(console.Make(w.System, 7, "/a/b")), api.Outcome{})
	made := system(console.Make(w.System, 7, "/a/b"))
	erased, _ := console.Erase(made.System, 7, "/a/b")
	compare(t, "remove", made, api.Act{Kind: api.ActRemove, User: 7, Path: "/a/b"}, system(erased, api.OK), api.Outcome{})
	compare(t, "read", w, api.Act{Kind: api.ActRead, User: 9, Path: "/a", File: "cgroup.procs"}, w, api.Outcome{Text: "1\n"})
	refused := acts{{Kind: api.ActWrite, User: 7, Path: "/a", File: "cpu.weight", Text: "7"}, {Kind: api.ActWrite, Path: "/z", File: "cpu.weight"}, {Kind: api.ActMake, Path: "/a"}, {Kind: api.ActRemove, Path: "/a"}, {Kind: api.ActRead, Path: "/a", File: "x"}, {Kind: 0}, {Kind: 7}, {Kind: -1}}
	for i, a := range refused {
		_, e := console.Write(w.System, a.User, a.Path, a.File, a.Text)
		switch a.Kind {
		case api.ActMake:
			e = api.ErrExists
		case api.ActRemove:
			e = api.ErrBusy
		case api.ActRead:
			e = api.ErrUnknown
		case 0, 7, -1:
			e = api.ErrInvalid
		}
		compare(t, i, w, a, w, fail(e))
		compare(t, i, loose(), a, loose(), fail(e))
	}
	// Behind each act the world is pruned.
	compare(t, "pruned", loose(), api.Act{Kind: api.ActRead, Path: "/a", File: "cgroup.type"}, w, api.Outcome{Text: "domain\n"})
	compare(t, "pruned", loose(), api.Act{Kind: api.ActWrite, Path: "/a", File: "cpu.weight", Text: "100"}, w, api.Outcome{})
	killed := base()
	killed, _, _ = machine.Spawn(killed, 2, 0, 0)
	killed.System, _, _ = paging.Alloc(killed.System, 1, 1)
	killed.System, _ = estate.Exit(killed.System, 1)
	if next, o := script.Do(killed, api.Act{Kind: api.ActRead, Path: "/", File: "cgroup.procs"}); o.Err != api.OK || len(next.Runners) != 1 || next.Runners[0].Task != 2 {
		t.Error(next.Runners, o)
	}
}

func TestP45_1Spawn(t *testing.T) {
	w := base()
	tight := base()
	tight.System, _ = console.Write(tight.System, 0, "/a", "pids.max", "1")
	spawned := func(w api.World, group, user, program int) api.World {
		next, _, e := machine.Spawn(w, group, user, program)
		if e != api.OK && e != api.ErrAgain {
			t.Error(e)
		}
		return next
	}
	for i, x := range []struct {
		w    api.World
		a    api.Act
		want api.World
		e    api.Errno
	}{
		{w, api.Act{User: 7, Path: "/a", Arg: 1}, spawned(w, 2, 7, 1), api.OK}, {w, api.Act{User: 0, Path: "/"}, spawned(w, 1, 0, 0), api.OK}, {tight, api.Act{User: 7, Path: "/a", Arg: 1}, spawned(tight, 2, 7, 1), api.ErrAgain},
		{loose(), api.Act{User: 9, Path: "/z", Arg: 9}, loose(), api.ErrInvalid}, {w, api.Act{User: -1, Path: "/z", Arg: 9}, w, api.ErrInvalid}, {w, api.Act{User: api.MaxUser + 1, Path: "/a"}, w, api.ErrInvalid}, {w, api.Act{User: 9, Path: "/z", Arg: 9}, w, api.ErrUnknown}, {w, api.Act{User: 9, Path: "a", Arg: 9}, w, api.ErrUnknown}, {w, api.Act{User: 9, Path: "/a", Arg: 9}, w, api.ErrDenied}, {w, api.Act{User: 7, Path: "/", Arg: 9}, w, api.ErrDenied}, {w, api.Act{User: api.MaxUser, Path: "/a"}, w, api.ErrDenied}, {w, api.Act{User: 7, Path: "/a", Arg: 9}, w, api.ErrUnknown}, {w, api.Act{User: 7, Path: "/a", Arg: -1}, w, api.ErrUnknown},
	} {
		x.a.Kind = api.ActSpawn
		compare(t, i, x.w, x.a, x.want, api.Outcome{Err: x.e})
	}
}

func TestP45_1Tick(t *testing.T) {
	w := base()
	late := base()
	late.System.Now, late.System.Devices[0].Now = api.MaxTime-2, api.MaxTime-2
	last := base()
	last.System.Now, last.System.Devices[0].Now = api.MaxTime, api.MaxTime
	ran := func(w api.World, n int) api.World { next, _, _ := machine.Run(w, n); return next }
	for i, x := range []struct {
		w    api.World
		n    int
		want api.World
		e    api.Errno
	}{
		{w, 0, w, api.OK}, {w, 7, ran(w, 7), api.OK}, {late, 2, ran(late, 2), api.OK}, {late, 5, ran(late, 2), api.ErrRange}, {last, 1, last, api.ErrRange}, {w, -1, w, api.ErrRange}, {w, api.MaxTicks + 1, w, api.ErrRange}, {loose(), 3, loose(), api.ErrInvalid}, {loose(), -1, loose(), api.ErrRange},
	} {
		compare(t, i, x.w, api.Act{Kind: api.ActTick, Arg: x.n}, x.want, api.Outcome{Err: x.e})
	}
}

func TestP45_2(t *testing.T) {
	w := base()
	l := acts{{Kind: api.ActMake, Path: "/b"}, {Kind: api.ActMake, Path: "/b"}, {Kind: api.ActTick, Arg: 3}, {Kind: api.ActRead, Path: "/b", File: "cgroup.type"}}
	want := w
	var outcomes []api.Outcome
	for _, a := range l {
		next, o := script.Do(want, a)
		want = next
		outcomes = append(outcomes, o)
	}
	before := fmt.Sprint(w)
	got, o := script.Run(w, l)
	if !eq(got, want) || !eq(o, outcomes) || o[1].Err != api.ErrExists || o[3].Text != "domain\n" {
		t.Error(o)
	}
	got, o = script.Run(w, nil)
	if !eq(got, w) || len(o) != 0 {
		t.Error(o)
	}
	got.Runners[0].Task = 99
	if fmt.Sprint(w) != before {
		t.Error("memory is shared")
	}
	got, o = script.Run(w, append(slices.Repeat(acts{{Kind: api.ActRead, Path: "/", File: "cgroup.stat"}}, 256), l[0]))
	if len(o) != 256 || !eq(got, w) {
		t.Error(len(o))
	}
	if _, o = script.Run(w, append(slices.Repeat(acts{{Kind: api.ActRead, Path: "/", File: "cgroup.stat"}}, 255), l[0])); len(o) != 256 || o[255].Err != api.OK {
		t.Error(len(o))
	}
}

// lines are texts of single acts.
var lines = []struct {
	text string
	act  api.Act
}{
	{"write 7 /a cpu.weight 5", api.Act{Kind: api.ActWrite, User: 7, Path: "/a", File: "cpu.weight", Text: "5"}},
	{"write 0 /a cpuset.cpus ", api.Act{Kind: api.ActWrite, Path: "/a", File: "cpuset.cpus"}},
	{"write 0 x y  a  b ", api.Act{Kind: api.ActWrite, Path: "x", File: "y", Text: " a  b "}},
	{"write 999999999 ~! ! ~", api.Act{Kind: api.ActWrite, User: 999999999, Path: "~!", File: "!", Text: "~"}},
	{"read 1 / cgroup.procs", api.Act{Kind: api.ActRead, User: 1, Path: "/", File: "cgroup.procs"}},
	{"make 0 /a/b", api.Act{Kind: api.ActMake, Path: "/a/b"}},
	{"remove 12 /a/b", api.Act{Kind: api.ActRemove, User: 12, Path: "/a/b"}},
	{"spawn 7 /a 3", api.Act{Kind: api.ActSpawn, User: 7, Path: "/a", Arg: 3}},
	{"tick 0", api.Act{Kind: api.ActTick}},
	{"tick 100", api.Act{Kind: api.ActTick, Arg: 100}},
}

func TestP45_3(t *testing.T) {
	var all acts
	text := ""
	for _, x := range lines {
		all = append(all, x.act)
		text += x.text + "\n"
		if s, e := script.Format(acts{x.act}); s != x.text+"\n" || e != api.OK {
			t.Errorf("%q %v", s, e)
		}
		if l, n, e := script.Parse(x.text + "\n"); !eq(l, acts{x.act}) || n != 0 || e != api.OK {
			t.Error(x.text, l, n, e)
		}
		if l, n, e := script.Parse("tick 1\n" + x.text); l != nil || n != 2 || e != api.ErrText {
			t.Error("no line feed", x.text, l, n, e)
		}
	}
	if s, e := script.Format(all); s != text || e != api.OK {
		t.Error(s, e)
	}
	if l, n, e := script.Parse(text); !eq(l, all) || n != 0 || e != api.OK {
		t.Error(l, n, e)
	}
	if s, e := script.Format(nil); s != "" || e != api.OK {
		t.Error(s, e)
	}
	if l, n, e := script.Parse(""); l != nil || n != 0 || e != api.OK {
		t.Error(l, n, e)
	}
	long := slices.Repeat(acts{{Kind: api.ActTick, Arg: 1}}, 256)
	for i, x := range []struct {
		l acts
		e api.Errno
	}{
		{long, api.OK}, {append(long, long[0]), api.ErrLimit}, {append(long, api.Act{}), api.ErrLimit}, {acts{{}}, api.ErrText}, {acts{{Kind: 7}}, api.ErrText}, {acts{{Kind: api.ActTick, Arg: -1}}, api.ErrText}, {acts{{Kind: api.ActTick, Arg: 1000000000}}, api.ErrText}, {acts{{Kind: api.ActTick, Arg: 999999999}}, api.OK}, {acts{{Kind: api.ActTick, User: 1}}, api.ErrText}, {acts{{Kind: api.ActTick, Path: "/"}}, api.ErrText}, {acts{{Kind: api.ActTick, File: "f"}}, api.ErrText}, {acts{{Kind: api.ActTick, Text: "t"}}, api.ErrText},
		{acts{{Kind: api.ActMake, Path: "/a", File: "f"}}, api.ErrText}, {acts{{Kind: api.ActMake, Path: "/a", Arg: 1}}, api.ErrText}, {acts{{Kind: api.ActMake, Path: "/a", Text: "t"}}, api.ErrText}, {acts{{Kind: api.ActMake}}, api.ErrText}, {acts{{Kind: api.ActMake, Path: "/a b"}}, api.ErrText}, {acts{{Kind: api.ActMake, Path: "/a\n"}}, api.ErrText}, {acts{{Kind: api.ActMake, Path: "é"}}, api.ErrText}, {acts{{Kind: api.ActMake, Path: "\x7f"}}, api.ErrText}, {acts{{Kind: api.ActMake, Path: "/a", User: -1}}, api.ErrText}, {acts{{Kind: api.ActMake, Path: "/a", User: 1000000000}}, api.ErrText}, {acts{{Kind: api.ActRemove, Path: "/a", Arg: 1}}, api.ErrText},
		{acts{{Kind: api.ActRead, Path: "/a"}}, api.ErrText}, {acts{{Kind: api.ActRead, Path: "/a", File: "f g"}}, api.ErrText}, {acts{{Kind: api.ActRead, Path: "/a", File: "f", Text: "t"}}, api.ErrText}, {acts{{Kind: api.ActRead, Path: "/a", File: "f", Arg: 1}}, api.ErrText}, {acts{{Kind: api.ActRead, File: "f"}}, api.ErrText}, {acts{{Kind: api.ActSpawn, Path: "/a", Arg: -1}}, api.ErrText}, {acts{{Kind: api.ActSpawn, Path: "/a", File: "f"}}, api.ErrText}, {acts{{Kind: api.ActSpawn, Path: "/a", Text: "f"}}, api.ErrText}, {acts{{Kind: api.ActSpawn, Path: "/a 5"}}, api.ErrText},
		{acts{{Kind: api.ActWrite, Path: "/a", File: "f", Text: "a\nb"}}, api.ErrText}, {acts{{Kind: api.ActWrite, Path: "/a", File: "f", Text: "5\n"}}, api.ErrText}, {acts{{Kind: api.ActWrite, Path: "/a", File: "f", Text: "\x1f"}}, api.ErrText}, {acts{{Kind: api.ActWrite, Path: "/a", File: "f", Text: "\x7f"}}, api.ErrText}, {acts{{Kind: api.ActWrite, Path: "/a", File: "f", Text: "é"}}, api.ErrText}, {acts{{Kind: api.ActWrite, Path: "/a", File: "f", Arg: 1}}, api.ErrText}, {acts{{Kind: api.ActWrite, Path: "/a", Text: "5"}}, api.ErrText}, {acts{{Kind: api.ActWrite, File: "f", Text: "5"}}, api.ErrText}, {acts{{Kind: api.ActWrite, Path: "/a", File: "f g", Text: "5"}}, api.ErrText},
	} {
		if s, e := script.Format(x.l); e != x.e || e != api.OK && s != "" {
			t.Errorf("%d %q %v", i, s, e)
		}
	}
	for i, x := range []struct {
		text string
		line int
		e    api.Errno
	}{
		{strings.Repeat("tick 1\n", 256), 0, api.OK}, {strings.Repeat("tick 1\n", 257), 257, api.ErrLimit}, {strings.Repeat("tick 1\n", 256) + "tick 1", 257, api.ErrText}, {strings.Repeat("tick 1\n", 256) + "x\n", 257, api.ErrText}, {strings.Repeat("tick 1\n", 300) + "x\n", 257, api.ErrLimit}, {"write 0 / f " + strings.Repeat("x", 65536-13) + "\n", 0, api.OK}, {"write 0 / f " + strings.Repeat("x", 65536-12) + "\n", 0, api.ErrLimit}, {strings.Repeat("\n", 65537), 0, api.ErrLimit},
		{"\n", 1, api.ErrText}, {"tick 1\n\n", 2, api.ErrText}, {"tick 01\n", 1, api.ErrText}, {"tick\n", 1, api.ErrText}, {"tick \n", 1, api.ErrText}, {"tick 1 \n", 1, api.ErrText}, {"tick  1\n", 1, api.ErrText}, {" tick 1\n", 1, api.ErrText}, {"tick 1 2\n", 1, api.ErrText}, {"tick -1\n", 1, api.ErrText}, {"tick +1\n", 1, api.ErrText}, {"tick 1000000000\n", 1, api.ErrText}, {"tick 1x\n", 1, api.ErrText}, {"tick /\n", 1, api.ErrText}, {"tick :\n", 1, api.ErrText}, {"TICK 1\n", 1, api.ErrText}, {"tick 1\r\n", 1, api.ErrText}, {"tick 00\n", 1, api.ErrText},
		{"write 0 / f\n", 1, api.ErrText}, {"write 0 /\n", 1, api.ErrText}, {"write x / f 5\n", 1, api.ErrText}, {"write 0  f 5\n", 1, api.ErrText}, {"write 0 /  5\n", 1, api.ErrText}, {"write 0 / f a\tb\n", 1, api.ErrText}, {"write 0 / f \x7f\n", 1, api.ErrText}, {"write 0 é f 5\n", 1, api.ErrText}, {"write 0 / é 5\n", 1, api.ErrText}, {"write 0 / f é\n", 1, api.ErrText},
		{"read 0 /\n", 1, api.ErrText}, {"read 0 / f g\n", 1, api.ErrText}, {"read 0 / f \n", 1, api.ErrText}, {"read 0 / \n", 1, api.ErrText}, {"make 0\n", 1, api.ErrText}, {"make 0 \n", 1, api.ErrText}, {"make 0 / x\n", 1, api.ErrText}, {"make 00 /\n", 1, api.ErrText}, {"remove / 0\n", 1, api.ErrText}, {"remove 0\n", 1, api.ErrText}, {"spawn 0 /\n", 1, api.ErrText}, {"spawn 0 / x\n", 1, api.ErrText}, {"spawn 0 / 1 2\n", 1, api.ErrText}, {"spawn / 1\n", 1, api.ErrText}, {"kill 1\n", 1, api.ErrText}, {"tick 1\nmake 0 /a\nx\ntick 01\n", 3, api.ErrText},
	} {
		if l, n, e := script.Parse(x.text); n != x.line || e != x.e || e != api.OK && l != nil {
			t.Errorf("%d %.30q: %d %v", i, x.text, n, e)
		}
	}
}

func TestP45_4(t *testing.T) {
	w := base()
	w.System, _ = console.Make(w.System, 0, "/a/b")
	w.System, _ = console.Make(w.System, 0, "/c")
	w.System, _ = console.Make(w.System, 0, "/a/d")
	w.System, _ = estate.Freeze(w.System, 0, 4, true)
	w, _, _ = machine.Spawn(w, 3, 0, 1)
	w, _, _ = machine.Spawn(w, 1, 0, 2)
	w.System, _ = console.Write(w.System, 0, "/a", "memory.max", "5")
	w.System, _, _ = paging.Alloc(w.System, 1, 4)
	w, _, _ = machine.Run(w, 6)
	want := "/ tasks=3 memory=5 swap=2 cpu=6 frozen=0\n/a tasks=2 memory=5 swap=2 cpu=5 frozen=0\n/a/b tasks=1 memory=3 swap=0 cpu=2 frozen=0\n/a/d tasks=0 memory=0 swap=0 cpu=0 frozen=0\n/c tasks=0 memory=0 swap=0 cpu=0 frozen=1\n"
	if s, e := script.Summary(w); s != want || e != api.OK {
		t.Errorf("%s %v", s, e)
	}
	if s, e := script.Summary(loose()); s != "" || e != api.ErrInvalid {
		t.Error(s, e)
	}
	before, _ := script.Summary(w)
	next, _ := script.Do(w, api.Act{Kind: api.ActRead, Path: "/a", File: "memory.current"})
	if after, _ := script.Summary(next); after != before {
		t.Error(after)
	}
}

// TestExample plays the examples of chapter 45.
func TestExample(t *testing.T) {
	s := base().System.Setup
	w, _ := machine.New(s, base().Programs)
	l, _, e := script.Parse("make 0 /a\nwrite 0 / cgroup.subtree_control +pids\nwrite 0 /a pids.max 1\nspawn 0 /a 0\nspawn 0 /a 0\nread 0 /a pids.current\n")
	if e != api.OK {
		t.Fatal(e)
	}
	_, o := script.Run(w, l)
	if !eq(o, []api.Outcome{{}, {}, {}, {}, {Err: api.ErrAgain}, {Text: "1\n"}}) {
		t.Error(o)
	}
	if _, n, e := script.Parse("tick 01\n"); n != 1 || e != api.ErrText {
		t.Error(n, e)
	}
}

// TestConsequences: Run of two lists is Run of both together, and reading a script gives its text back.
func TestConsequences(t *testing.T) {
	r := rand.New(rand.NewSource(47))
	words := []string{"/a", "/a/b", "/", "/c", "/z"}
	list := []string{"cgroup.procs", "cpu.weight", "memory.max", "cgroup.freeze", "cgroup.subtree_control", "pids.max"}
	texts := []string{"1", "2", "max", "+cpu", "0", ""}
	for range 30 {
		var l acts
		for range r.Intn(12) {
			a := api.Act{Kind: 1 + r.Intn(6)}
			if a.Kind != api.ActTick {
				a.User, a.Path = []int{0, 0, 7}[r.Intn(3)], words[r.Intn(len(words))]
			}
			switch a.Kind {
			case api.ActWrite:
				a.File, a.Text = list[r.Intn(len(list))], texts[r.Intn(len(texts))]
			case api.ActRead:
				a.File = list[r.Intn(len(list))]
			case api.ActSpawn:
				a.Arg = r.Intn(4)
			case api.ActTick:
				a.Arg = r.Intn(9)
			}
			l = append(l, a)
		}
		text, e := script.Format(l)
		back, n, f := script.Parse(text)
		if again, _ := script.Format(back); e != api.OK || f != api.OK || n != 0 || !eq(back, l) || again != text {
			t.Fatal(l, text)
		}
		k := r.Intn(len(l) + 1)
		one, a := script.Run(base(), l[:k])
		two, b := script.Run(one, l[k:])
		both, all := script.Run(base(), l)
		if !eq(two, both) || !eq(slices.Concat(a, b), all) || !machine.Valid(both) {
			t.Fatal(l)
		}
	}
}
