package workload_test

import (
	"math/rand"
	"slices"
	"testing"

	"groupcontrol/api"
	"groupcontrol/workload"
)

type steps = []api.Step

func program(s ...api.Step) api.Program { return api.Program{Steps: s} }

// compute returns a step that computes.
func compute(n int) api.Step { return api.Step{Kind: api.StepCompute, N: n} }

var (
	exit  = api.Step{Kind: api.StepExit}
	again = api.Step{Kind: api.StepAgain}
	sleep = api.Step{Kind: api.StepSleep, N: 4}
)

// base is {compute 2, exit} and {sleep, compute 3, again}.
func base() []api.Program {
	return []api.Program{program(compute(2), exit), program(sleep, compute(3), again)}
}

var bad = []api.Program{program()}

func TestP41_1(t *testing.T) {
	for i, x := range []struct {
		p    []api.Program
		want bool
	}{
		{nil, true}, {base(), true}, {bad, false}, {slices.Repeat([]api.Program{program(exit)}, 32), true}, {slices.Repeat([]api.Program{program(exit)}, 33), false}, {[]api.Program{program(slices.Repeat(steps{exit}, 64)...)}, true}, {[]api.Program{program(slices.Repeat(steps{exit}, 65)...)}, false}, {[]api.Program{program(exit), program(exit, api.Step{})}, false}, {[]api.Program{program(api.Step{Kind: 13})}, false}, {[]api.Program{program(api.Step{Kind: -1})}, false},
	} {
		if workload.Valid(x.p) != x.want {
			t.Error(i)
		}
	}
	type bounds struct{ least, most int }
	none := bounds{0, 0}
	pages, time := bounds{1, api.MaxPages}, bounds{1, api.MaxTime}
	for kind, x := range map[int]struct{ n, arg, at bounds }{
		api.StepCompute: {time, none, none}, api.StepSleep: {time, none, none}, api.StepAlloc: {pages, none, none}, api.StepFree: {pages, none, none}, api.StepUse: {pages, none, none}, api.StepTouch: {pages, bounds{1, api.MaxID}, none}, api.StepFork: {none, bounds{0, 2}, none}, api.StepClone: {none, bounds{0, 2}, none}, api.StepAgain: {none, none, none}, api.StepExit: {none, none, none},
		api.StepRead: {bounds{1, 4096}, bounds{0, 7}, bounds{0, api.MaxPages - 4096}}, api.StepWrite: {bounds{1, 4096}, bounds{0, 7}, bounds{0, api.MaxPages - 4096}},
	} {
		check := func(n, arg, at int, want bool) {
			t.Helper()
			if workload.Valid([]api.Program{program(exit), program(exit), program(api.Step{Kind: kind, N: n, Arg: arg, At: at})}) != want {
				t.Error(kind, n, arg, at)
			}
		}
		for _, n := range []int{x.n.least - 1, x.n.least, x.n.most, x.n.most + 1} {
			for _, arg := range []int{x.arg.least - 1, x.arg.least, x.arg.most, x.arg.most + 1} {
				in := n >= x.n.least && n <= x.n.most && arg >= x.arg.least && arg <= x.arg.most
				check(n, arg, x.at.least, in)
				check(n, arg, x.at.least-1, false)
				check(n, arg, x.at.most, in)
				check(n, arg, x.at.most+1, in && (kind == api.StepRead || kind == api.StepWrite) && n < 4096)
			}
		}
	}
	if !workload.Valid([]api.Program{program(api.Step{Kind: api.StepRead, N: 1, At: api.MaxPages - 1})}) || workload.Valid([]api.Program{program(api.Step{Kind: api.StepRead, N: 1, At: api.MaxPages})}) || workload.Valid([]api.Program{program(api.Step{Kind: api.StepRead, N: 2, At: api.MaxPages - 1})}) {
		t.Error("the end of a device")
	}
	type r = api.Runner
	for i, x := range []struct {
		p    []api.Program
		r    api.Runner
		want bool
	}{
		{base(), r{Task: 1, Left: 2}, true}, {bad, r{Task: 1}, false}, {append(base(), program()), r{Task: 1, Left: 2}, false}, {append(base(), program()), r{Task: 1, At: 2, State: api.RunDone}, false}, {nil, r{Task: 1}, false}, {base(), r{Task: 0, Left: 2}, false}, {base(), r{Task: api.MaxID, Left: 2}, true}, {base(), r{Task: api.MaxID + 1, Left: 2}, false}, {base(), r{Task: 1, Program: 2}, false}, {base(), r{Task: 1, Program: -1, Left: 2}, false}, {base(), r{Task: 1, Program: 1}, true},
		{base(), r{Task: 1, Left: 1}, true}, {base(), r{Task: 1, Left: 0}, false}, {base(), r{Task: 1, Left: 3}, false}, {base(), r{Task: 1, At: 1}, true}, {base(), r{Task: 1, At: 1, Left: 1}, false}, {base(), r{Task: 1, At: 2}, false}, {base(), r{Task: 1, At: -1}, false}, {base(), r{Task: 1, Left: 1, State: 5}, false}, {base(), r{Task: 1, Left: 1, State: -1}, false},
		{base(), r{Task: 1, Left: 1, State: api.RunSleep, Until: 0}, true}, {base(), r{Task: 1, Left: 1, State: api.RunSleep, Until: api.MaxTime}, true}, {base(), r{Task: 1, Left: 1, State: api.RunSleep, Until: api.MaxTime + 1}, false}, {base(), r{Task: 1, Left: 1, State: api.RunSleep, Until: -1}, false}, {base(), r{Task: 1, Left: 1, Until: 1}, false}, {base(), r{Task: 1, Left: 1, State: api.RunDevice}, true}, {base(), r{Task: 1, Left: 1, State: api.RunDevice, Until: 1}, false}, {base(), r{Task: 1, Left: 1, State: api.RunMemory}, true}, {base(), r{Task: 1, Left: 1, State: api.RunMemory, Until: 1}, false},
		{base(), r{Task: 1, At: 2, State: api.RunDone}, true}, {base(), r{Task: 1, At: 1, State: api.RunDone}, false}, {base(), r{Task: 1, At: 3, State: api.RunDone}, false}, {base(), r{Task: 1, At: 2, State: api.RunDone, Left: 1}, false}, {base(), r{Task: 1, At: 2, State: api.RunDone, Until: 1}, false}, {base(), r{Task: 1, Program: 1, At: 3, State: api.RunDone}, true},
	} {
		if workload.Sound(x.p, x.r) != x.want {
			t.Error(i)
		}
	}
	for i, x := range []struct {
		p             []api.Program
		task, program int
		want          api.Runner
		e             api.Errno
	}{
		{base(), 5, 0, r{Task: 5, Left: 2}, api.OK}, {base(), api.MaxID, 1, r{Task: api.MaxID, Program: 1}, api.OK}, {base(), 1, 1, r{Task: 1, Program: 1}, api.OK}, {bad, 0, 9, r{}, api.ErrInvalid}, {base(), 0, 2, r{}, api.ErrUnknown}, {base(), 0, -1, r{}, api.ErrUnknown}, {nil, 1, 0, r{}, api.ErrUnknown}, {base(), 0, 0, r{}, api.ErrRange}, {base(), api.MaxID + 1, 0, r{}, api.ErrRange},
	} {
		if r, e := workload.Start(x.p, x.task, x.program); r != x.want || e != x.e {
			t.Error(i, r, e)
		}
	}
}

func TestP41_2(t *testing.T) {
	type r = api.Runner
	for i, x := range []struct {
		p     []api.Program
		r     api.Runner
		want  api.Step
		ok    bool
		eager bool
	}{
		{base(), r{Task: 1, Left: 1}, compute(2), true, true}, {base(), r{Task: 1, At: 1}, exit, true, true}, {base(), r{Task: 1, Program: 1, State: api.RunSleep}, sleep, true, false}, {base(), r{Task: 1, Program: 1, State: api.RunDevice}, sleep, true, false}, {base(), r{Task: 1, Program: 1, State: api.RunMemory}, sleep, true, true}, {base(), r{Task: 1, At: 2, State: api.RunDone}, api.Step{}, false, false}, {base(), r{Task: 1, Left: 9}, api.Step{}, false, false}, {bad, r{Task: 1, Left: 1}, api.Step{}, false, false},
	} {
		if s, ok := workload.Current(x.p, x.r); s != x.want || ok != x.ok || workload.Eager(x.p, x.r) != x.eager {
			t.Error(i, s, ok)
		}
	}
}

func TestP41_3(t *testing.T) {
	type r = api.Runner
	for i, x := range []struct {
		p    []api.Program
		r    api.Runner
		want api.Runner
		e    api.Errno
	}{
		{base(), r{Task: 7, Left: 2}, r{Task: 7, Left: 1}, api.OK}, {base(), r{Task: 7, Left: 1}, r{Task: 7, At: 1}, api.OK}, {base(), r{Task: 7, Program: 1, At: 1, Left: 1}, r{Task: 7, Program: 1, At: 2}, api.OK}, {[]api.Program{program(compute(1))}, r{Task: 7, Left: 1}, r{Task: 7, At: 1, State: api.RunDone}, api.OK}, {[]api.Program{program(compute(1), compute(8))}, r{Task: 7, Left: 1}, r{Task: 7, At: 1, Left: 8}, api.OK},
		{bad, r{Task: 7, Left: 2}, r{}, api.ErrInvalid}, {base(), r{Task: 7, Left: 3}, r{}, api.ErrInvalid}, {base(), r{Task: 7, At: 2, State: api.RunDone}, r{}, api.ErrState}, {base(), r{Task: 7, Left: 2, State: api.RunMemory}, r{}, api.ErrState}, {base(), r{Task: 7, Left: 1, State: api.RunSleep}, r{}, api.ErrState}, {base(), r{Task: 7, At: 1}, r{}, api.ErrState}, {base(), r{Task: 7, Program: 1}, r{}, api.ErrState},
	} {
		if r, e := workload.Unit(x.p, x.r); r != x.want || e != x.e {
			t.Error(i, r, e)
		}
	}
	for i, x := range []struct {
		p    []api.Program
		r    api.Runner
		want api.Runner
		e    api.Errno
	}{
		{base(), r{Task: 7, Left: 2}, r{Task: 7, At: 1}, api.OK}, {base(), r{Task: 7, At: 1}, r{Task: 7, At: 2, State: api.RunDone}, api.OK}, {base(), r{Task: 7, Program: 1, State: api.RunSleep, Until: 8}, r{Task: 7, Program: 1, At: 1, Left: 3}, api.OK}, {base(), r{Task: 7, Program: 1, At: 1, Left: 1, State: api.RunDevice}, r{Task: 7, Program: 1, At: 2}, api.OK}, {base(), r{Task: 7, Program: 1, At: 2, State: api.RunMemory}, r{Task: 7, Program: 1}, api.OK}, {[]api.Program{program(compute(5), again)}, r{Task: 7, At: 1}, r{Task: 7, Left: 5}, api.OK}, {[]api.Program{program(again)}, r{Task: 7}, r{Task: 7}, api.OK},
		{bad, r{Task: 7, Left: 2}, r{}, api.ErrInvalid}, {base(), r{Task: 0, Left: 2}, r{}, api.ErrInvalid}, {base(), r{Task: 7, At: 2, State: api.RunDone}, r{}, api.ErrState},
	} {
		if r, e := workload.Next(x.p, x.r); r != x.want || e != x.e {
			t.Error(i, r, e)
		}
	}
}

func TestP41_4(t *testing.T) {
	type r = api.Runner
	ready, slept := r{Task: 7, Left: 2}, r{Task: 7, Program: 1, State: api.RunSleep, Until: 5}
	for i, x := range []struct {
		p            []api.Program
		r            api.Runner
		state, until int
		want         api.Runner
		e            api.Errno
	}{
		{base(), ready, api.RunSleep, 9, r{Task: 7, Left: 2, State: api.RunSleep, Until: 9}, api.OK}, {base(), ready, api.RunSleep, 0, r{Task: 7, Left: 2, State: api.RunSleep}, api.OK}, {base(), ready, api.RunSleep, api.MaxTime, r{Task: 7, Left: 2, State: api.RunSleep, Until: api.MaxTime}, api.OK}, {base(), slept, api.RunDevice, 0, r{Task: 7, Program: 1, State: api.RunDevice}, api.OK}, {base(), slept, api.RunMemory, 0, r{Task: 7, Program: 1, State: api.RunMemory}, api.OK},
		{bad, ready, 9, 0, r{}, api.ErrInvalid}, {base(), r{Task: 0}, 9, 0, r{}, api.ErrInvalid}, {base(), r{Task: 7, At: 2, State: api.RunDone}, 9, 0, r{}, api.ErrState}, {base(), ready, api.RunReady, 0, r{}, api.ErrRange}, {base(), ready, api.RunDone, 0, r{}, api.ErrRange}, {base(), ready, -1, 0, r{}, api.ErrRange}, {base(), ready, api.RunSleep, -1, r{}, api.ErrRange}, {base(), ready, api.RunSleep, api.MaxTime + 1, r{}, api.ErrRange}, {base(), ready, api.RunDevice, 1, r{}, api.ErrRange}, {base(), ready, api.RunMemory, -1, r{}, api.ErrRange},
	} {
		if r, e := workload.Wait(x.p, x.r, x.state, x.until); r != x.want || e != x.e {
			t.Error(i, r, e)
		}
	}
	odd := r{Task: -3, Program: 9, State: api.RunSleep, Until: 5}
	for i, x := range []struct {
		p    []api.Program
		r    api.Runner
		now  int
		want api.Runner
		ok   bool
	}{
		{base(), slept, 4, slept, false}, {base(), slept, 5, r{Task: 7, Program: 1, At: 1, Left: 3}, true}, {base(), slept, 99, r{Task: 7, Program: 1, At: 1, Left: 3}, true}, {base(), ready, 99, ready, false}, {base(), r{Task: 7, Left: 2, State: api.RunDevice}, 99, r{Task: 7, Left: 2, State: api.RunDevice}, false}, {base(), r{Task: 7, At: 2, State: api.RunDone}, 99, r{Task: 7, At: 2, State: api.RunDone}, false}, {bad, slept, 99, slept, false}, {base(), odd, 99, odd, false},
	} {
		if r, ok := workload.Wake(x.p, x.r, x.now); r != x.want || ok != x.ok {
			t.Error(i, r, ok)
		}
	}
}

// TestConsequences: all functions keep runners sound, and a program without StepAgain is done after finitely many steps.
func TestConsequences(t *testing.T) {
	r := rand.New(rand.NewSource(43))
	for range 300 {
		var p []api.Program
		for range 1 + r.Intn(3) {
			var s steps
			for range 1 + r.Intn(5) {
				s = append(s, []api.Step{compute(1 + r.Intn(4)), exit, sleep, {Kind: api.StepAlloc, N: 3}}[r.Intn(4)])
			}
			p = append(p, program(s...))
		}
		x, _ := workload.Start(p, 1+r.Intn(9), r.Intn(len(p)))
		units := map[int]int{}
		for i := 0; x.State != api.RunDone; i++ {
			s, ok := workload.Current(p, x)
			if !ok || !workload.Sound(p, x) || i > 200 {
				t.Fatal(p, x)
			}
			at := x.At
			if r.Intn(3) == 0 {
				if y, e := workload.Wait(p, x, api.RunSleep, 3); e == api.OK && s.Kind != api.StepCompute {
					x, _ = workload.Wake(p, y, 3)
				}
				continue
			}
			if y, e := workload.Unit(p, x); e == api.OK {
				x = y
				units[at]++
			} else if s.Kind == api.StepCompute {
				t.Fatal(x, e)
			} else {
				x, _ = workload.Next(p, x)
			}
		}
		for at, s := range p[x.Program].Steps {
			if s.Kind == api.StepCompute && units[at] != s.N {
				t.Fatal(p, units)
			}
		}
	}
}
