package machine_test

import (
	"fmt"
	"math/rand"
	"slices"
	"testing"

	"groupcontrol/api"
	"groupcontrol/copies"
	"groupcontrol/counter"
	"groupcontrol/cpu"
	"groupcontrol/device"
	"groupcontrol/estate"
	"groupcontrol/freeze"
	"groupcontrol/limit"
	"groupcontrol/machine"
	"groupcontrol/member"
	"groupcontrol/paging"
	"groupcontrol/pids"
	"groupcontrol/pressure"
	"groupcontrol/private"
	"groupcontrol/settings"
	"groupcontrol/swap"
	"groupcontrol/threaded"
	"groupcontrol/tree"
	"groupcontrol/workload"
)

func eq(a, b any) bool { return fmt.Sprint(a) == fmt.Sprint(b) }

func program(s ...api.Step) api.Program { return api.Program{Steps: s} }

func step(kind, n, arg, at int) api.Step { return api.Step{Kind: kind, N: n, Arg: arg, At: at} }

func compute(n int) api.Step { return step(api.StepCompute, n, 0, 0) }

var exit = step(api.StepExit, 0, 0, 0)

func setup() api.Setup {
	return api.Setup{Machine: api.Machine{Domains: []int{0}}, Online: []int{0}, Slice: 3, Pages: 100, Period: 4, Devices: []api.DeviceConfig{{Model: api.Model{ReadPage: 10, WritePage: 10}, Speed: 10}}}
}

// start returns a world with the group /a (2) and a task in it for each program.
func start(t *testing.T, s api.Setup, programs ...api.Program) api.World {
	t.Helper()
	w, e := machine.New(s, programs)
	if e != api.OK {
		t.Fatal(e)
	}
	w.System, _, _ = estate.Create(w.System, 0, 1, "a")
	for i := range programs {
		if w, _, e = machine.Spawn(w, 2, 0, i); e != api.OK {
			t.Fatal(e)
		}
	}
	return w
}

// set changes the settings of /a.
func set(t *testing.T, w api.World, change func(*api.Settings)) api.World {
	t.Helper()
	s := settings.Get(w.System.Configs, 2)
	change(&s)
	y, e := estate.Set(w.System, 0, 2, s)
	if e != api.OK {
		t.Fatal(e)
	}
	w.System = y
	return w
}

// run makes n ticks.
func run(t *testing.T, w api.World, n int) (api.World, []api.Report) {
	t.Helper()
	next, reports, e := machine.Run(w, n)
	if e != api.OK || len(reports) != n || !machine.Valid(next) {
		t.Fatal(e, len(reports))
	}
	return next, reports
}

func runner(w api.World, task int) (api.Runner, bool) {
	i := slices.IndexFunc(w.Runners, func(r api.Runner) bool { return r.Task == task })
	if i < 0 {
		return api.Runner{}, false
	}
	return w.Runners[i], true
}

func TestP42_1(t *testing.T) {
	p := []api.Program{program(compute(3), exit)}
	y, _ := estate.New(setup())
	w, e := machine.New(setup(), p)
	if e != api.OK || !eq(w, api.World{System: y, Programs: p}) || !machine.Valid(w) {
		t.Error(w, e)
	}
	if w.Programs[0].Steps[0].N = 9; p[0].Steps[0].N != 3 {
		t.Error("memory is shared")
	}
	for i, x := range []struct {
		s api.Setup
		p []api.Program
	}{{api.Setup{}, nil}, {api.Setup{}, []api.Program{{}}}, {setup(), []api.Program{{}}}} {
		if w, e := machine.New(x.s, x.p); e != api.ErrInvalid || !eq(w, api.World{}) {
			t.Error(i, e)
		}
	}
	base := start(t, setup(), program(compute(3)), program(compute(2)))
	for i, x := range []struct {
		change func(*api.World)
		want   bool
	}{
		{func(w *api.World) {}, true}, {func(w *api.World) { *w = api.World{} }, false}, {func(w *api.World) { w.System.Now = 1 }, false}, {func(w *api.World) { w.Programs = append(w.Programs, api.Program{}) }, false}, {func(w *api.World) { w.Runners = w.Runners[:1] }, true}, {func(w *api.World) { w.Runners = nil }, true}, {func(w *api.World) { w.Runners, w.Programs = nil, []api.Program{{}} }, false}, {func(w *api.World) { w.Runners[1].Task = 1 }, false}, {func(w *api.World) { w.Runners[0], w.Runners[1] = w.Runners[1], w.Runners[0] }, false}, {func(w *api.World) { w.Runners[1].Task = 3 }, false}, {func(w *api.World) { w.Runners[1].Left = 3 }, false}, {func(w *api.World) { w.Runners[1].Left = 1 }, true},
	} {
		w := copies.World(base)
		x.change(&w)
		if machine.Valid(w) != x.want {
			t.Error(i)
		}
	}
	odd := copies.World(base)
	odd.Runners = []api.Runner{{Task: 9}, {Task: 2, Left: 77}, {Task: 0}, {Task: 1}, {Task: 2}}
	before := fmt.Sprint(odd)
	pruned := machine.Prune(odd)
	if !eq(pruned.Runners, []api.Runner{{Task: 2, Left: 77}, {Task: 1}, {Task: 2}}) || !eq(pruned.System, odd.System) {
		t.Error(pruned.Runners)
	}
	pruned.Runners[0].Task, pruned.System.Hierarchy.Tasks[0].ID, pruned.Programs[0].Steps[0].N = 9, 9, 9
	if fmt.Sprint(odd) != before {
		t.Error("memory is shared")
	}
}

func TestP42_2(t *testing.T) {
	w := start(t, setup(), program(compute(3)), program(step(api.StepSleep, 4, 0, 0)))
	tight := set(t, w, func(s *api.Settings) { s.PidsMax = 2 })
	wrong := copies.World(w)
	wrong.System.Now = 1
	for i, x := range []struct {
		w                    api.World
		group, user, program int
		id                   int
		e                    api.Errno
	}{{w, 2, 5, 0, 3, api.OK}, {w, 1, 0, 1, 3, api.OK}, {wrong, 9, -1, 9, 0, api.ErrInvalid}, {w, 9, -1, 2, 0, api.ErrUnknown}, {w, 2, 0, -1, 0, api.ErrUnknown}, {w, 2, 0, 2, 0, api.ErrUnknown}, {w, 2, 0, 3, 0, api.ErrUnknown}, {w, 9, 0, 0, 0, api.ErrUnknown}, {w, 2, -1, 0, 0, api.ErrInvalid}, {tight, 2, 0, 0, 0, api.ErrAgain}} {
		before := fmt.Sprint(x.w)
		got, id, e := machine.Spawn(x.w, x.group, x.user, x.program)
		var want api.World
		if x.e == api.OK || x.e == api.ErrAgain {
			want = copies.World(x.w)
			want.System, _, _ = estate.Spawn(x.w.System, x.group, x.user)
		}
		if x.e == api.OK {
			r, _ := workload.Start(w.Programs, 3, x.program)
			want.Runners = append(want.Runners, r)
		}
		if e != x.e || id != x.id || !eq(got, want) || e == api.OK && !machine.Valid(got) {
			t.Error(i, id, e, got)
		}
		for k := range got.Runners {
			got.Runners[k].Task = 99
		}
		for k := range got.Programs {
			got.Programs[k].Steps[0].N = 99
		}
		if fmt.Sprint(x.w) != before {
			t.Error(i, "memory is shared")
		}
	}
}

func TestP42_3(t *testing.T) {
	w := start(t, setup(), program(compute(3)), program(step(api.StepAlloc, 4, 0, 0)), program(step(api.StepSleep, 4, 0, 0)), program(step(api.StepRead, 4, 0, 0)), program(compute(1)), program(exit))
	w.Runners[1].State, w.Runners[2].State, w.Runners[3].State = api.RunMemory, api.RunSleep, api.RunDevice
	w.Runners[4] = api.Runner{Task: 5, Program: 4, At: 1, State: api.RunDone}
	if l := machine.Runnable(w); !eq(l, []int{1, 2, 6}) {
		t.Error(l)
	}
	w.System, _ = estate.Freeze(w.System, 0, 2, true)
	w.System.Freezer, _ = freeze.Step(w.System.Hierarchy, w.System.Freezer, []int{2})
	if l := machine.Runnable(w); !eq(l, []int{2}) {
		t.Error(l)
	}
	w = start(t, setup(), program(compute(3)))
	w.System.Now = 1
	if l := machine.Runnable(w); l != nil {
		t.Error(l)
	}
}

// tick does word by word what Tick promises.
func tick(w api.World) (api.World, api.Report) {
	w = copies.World(w)
	var report api.Report
	y := &w.System
	y.Now++
	for i := range y.Devices {
		d, ended, _ := device.Tick(y.Hierarchy.Tree, y.Devices[i])
		y.Devices[i] = d
		report.Ended = append(report.Ended, ended...)
	}
	waits := func(task int) bool {
		n := 0
		for _, d := range y.Devices {
			n += device.Pending(d, task)
		}
		return n > 0
	}
	for i, r := range w.Runners {
		if r.State == api.RunDevice && !waits(r.Task) {
			w.Runners[i], _ = workload.Next(w.Programs, r)
		}
	}
	for i, r := range w.Runners {
		w.Runners[i], _ = workload.Wake(w.Programs, r, y.Now)
	}
	var busy []int
	for _, k := range y.Hierarchy.Tasks {
		if waits(k.ID) {
			busy = append(busy, k.ID)
		}
	}
	y.Freezer, _ = freeze.Step(y.Hierarchy, y.Freezer, busy)
	var killed []int
	w.System, killed, _ = paging.Enforce(w.System)
	report.Killed = append(report.Killed, killed...)
	w = machine.Prune(w)
	y = &w.System
	runnable := machine.Runnable(w)
	y.Processors, report.Ran, _ = cpu.Tick(y.Hierarchy, y.Configs, y.Processors, y.Setup.Online, runnable)
	for _, a := range report.Ran {
		if _, ok := runner(w, a.Task); ok {
			w = machine.Prune(act(w, a.Task, &report))
		}
	}
	y = &w.System
	var stalls []api.Stall
	for _, r := range w.Runners {
		k, _ := member.Find(y.Hierarchy, r.Task)
		ran := slices.ContainsFunc(report.Ran, func(a api.Assignment) bool { return a.Task == r.Task })
		stalls = append(stalls, api.Stall{Task: r.Task, Group: k.Group, Running: ran, CPU: slices.Contains(runnable, r.Task) && !ran, Memory: r.State == api.RunMemory, IO: r.State == api.RunDevice})
	}
	y.Gauge, _ = pressure.Step(y.Hierarchy.Tree, y.Gauge, stalls)
	return w, report
}

// act carries out the present step of a task.
func act(w api.World, task int, report *api.Report) api.World {
	r, _ := runner(w, task)
	s, _ := workload.Current(w.Programs, r)
	k, _ := member.Find(w.System.Hierarchy, task)
	domain, _ := threaded.Domain(w.System.Hierarchy.Tree, k.Group)
	put := func(next api.Runner, e api.Errno) {
		i := slices.IndexFunc(w.Runners, func(r api.Runner) bool { return r.Task == task })
		if e == api.OK && i >= 0 {
			w.Runners[i] = next
		}
	}
	goOn := func() { put(workload.Next(w.Programs, r)) }
	anon, swapped := private.Pages(w.System.Residents, k.Process)
	memory := func(y api.System, g api.Growth, e api.Errno) {
		if e == api.OK || e == api.ErrMemory {
			w.System = y
		}
		if e == api.OK || e == api.ErrUnknown {
			goOn()
		}
		if e == api.ErrMemory {
			if z, killing, e := paging.Kill(w.System, g.Refused); e == api.OK {
				w.System = z
				report.Killed = append(report.Killed, killing.Processes...)
			}
			if _, ok := member.Find(w.System.Hierarchy, task); ok {
				put(workload.Wait(w.Programs, r, api.RunMemory, 0))
			}
		}
	}
	fork := func(y api.System, id int, e api.Errno) {
		if e == api.OK {
			w.System = y
			next, _ := workload.Start(w.Programs, id, s.Arg)
			w.Runners = append(w.Runners, next)
		}
		if e == api.ErrAgain {
			w.System = y
			report.Refused = append(report.Refused, task)
		}
		goOn()
	}
	switch s.Kind {
	case api.StepCompute:
		put(workload.Unit(w.Programs, r))
	case api.StepAlloc:
		memory(paging.Alloc(w.System, k.Process, s.N))
	case api.StepTouch:
		memory(paging.Touch(w.System, k.Process, s.Arg, s.N))
	case api.StepUse:
		memory(paging.Use(w.System, k.Process, min(s.N, swapped)))
	case api.StepFree:
		w.System, _ = paging.Free(w.System, k.Process, min(s.N, anon+swapped))
		goOn()
	case api.StepRead, api.StepWrite:
		if s.Arg >= len(w.System.Devices) {
			goOn()
			break
		}
		d, e := device.Submit(w.System.Hierarchy.Tree, w.System.Devices[s.Arg], api.Request{Task: task, Group: domain, At: s.At, Pages: s.N, Write: s.Kind == api.StepWrite})
		if e == api.OK {
			w.System.Devices[s.Arg] = d
			put(workload.Wait(w.Programs, r, api.RunDevice, 0))
		}
	case api.StepSleep:
		put(workload.Wait(w.Programs, r, api.RunSleep, min(w.System.Now+s.N, api.MaxTime)))
	case api.StepFork:
		fork(estate.Spawn(w.System, k.Group, k.User))
	case api.StepClone:
		fork(estate.Clone(w.System, task))
	case api.StepAgain:
		goOn()
	case api.StepExit:
		w.System, _ = estate.Exit(w.System, task)
	}
	return w
}

func TestP42_4(t *testing.T) {
	w := start(t, setup(), program(compute(3)), program(step(api.StepAlloc, 4, 0, 0), exit))
	wrong := copies.World(w)
	wrong.System.Now = 1
	late := copies.World(w)
	late.System.Now, late.System.Devices[0].Now = api.MaxTime, api.MaxTime
	tired := copies.World(w)
	tired.System.Processors.Tick = api.MaxValue
	both := copies.World(w)
	both.System.Now = api.MaxTime
	for i, x := range []struct {
		w api.World
		e api.Errno
	}{{both, api.ErrInvalid}, {wrong, api.ErrInvalid}, {late, api.ErrRange}, {tired, api.ErrInvalid}} {
		if next, report, e := machine.Tick(x.w); e != x.e || !eq(next, api.World{}) || !eq(report, api.Report{}) {
			t.Error(i, e)
		}
	}
	late.System.Now, late.System.Devices[0].Now = api.MaxTime-1, api.MaxTime-1
	if next, _, e := machine.Tick(late); e != api.OK || next.System.Now != api.MaxTime {
		t.Error(e)
	}
	before := fmt.Sprint(w)
	next, report, e := machine.Tick(w)
	if e != api.OK || len(report.Ran) != 1 || next.System.Now != 1 || next.System.Gauge.Now != 1 {
		t.Error(next, report, e)
	}
	report.Ran[0].Task, next.Runners[0].Task, next.Programs[0].Steps[0].N, next.System.Hierarchy.Tasks[0].ID, next.System.Setup.Online[0] = 9, 9, 9, 9, 9
	if fmt.Sprint(w) != before || next.System.Processors.Last[0].Task == 9 {
		t.Error("memory is shared")
	}
}

// TestP42_4Stalls looks at the pressure that a tick leads to.
func TestP42_4Stalls(t *testing.T) {
	w := start(t, setup(), program(compute(5)), program(compute(5)))
	w, _ = run(t, w, 1)
	if p, _ := pressure.Get(w.System.Gauge, 2, api.PressureCPU); p.Some.Total != 1 || p.Full.Total != 0 {
		t.Error(p)
	}
	w = start(t, setup(), program(step(api.StepRead, 4, 0, 0)))
	w, _ = run(t, w, 2)
	if p, _ := pressure.Get(w.System.Gauge, 2, api.PressureIO); p.Some.Total != 2 || p.Full.Total != 1 {
		t.Error("in the first tick the task runs, in the second one it waits", p)
	}
	// A task that has stopped in a frozen group does not wait.
	w = start(t, setup(), program(compute(5)))
	w.System, _ = estate.Freeze(w.System, 0, 2, true)
	w, reports := run(t, w, 3)
	if p, _ := pressure.Get(w.System.Gauge, 2, api.PressureCPU); p.Some.Total != 0 || len(reports[0].Ran)+len(reports[2].Ran) != 0 || !freeze.Get(w.System.Freezer, 2).Frozen {
		t.Error(p, reports)
	}
	// A task with a request is busy: its group is frozen when the request is done.
	w = start(t, setup(), program(step(api.StepRead, 3, 0, 0), compute(9)))
	w, _ = run(t, w, 1)
	w.System, _ = estate.Freeze(w.System, 0, 2, true)
	frozen := 0
	for range 6 {
		w, reports = run(t, w, 1)
		if freeze.Get(w.System.Freezer, 2).Frozen && frozen == 0 {
			frozen = w.System.Now
		}
		if len(reports[0].Ran) != 0 {
			t.Error("a task of a frozen group runs")
		}
	}
	if r, _ := runner(w, 1); frozen != 4 || r.At != 1 || r.Left != 9 {
		t.Error(frozen, r)
	}
}

func TestP42_5(t *testing.T) {
	at := func(w api.World, task, want int) {
		t.Helper()
		if r, ok := runner(w, task); !ok || r.At != want {
			t.Error("task", task, "is at", r)
		}
	}
	// Memory: the pages go to the domain, and other errors than ErrMemory do not stop the program.
	w := start(t, setup(), program(step(api.StepAlloc, 5, 0, 0), step(api.StepTouch, 3, 1, 0), step(api.StepTouch, 3, 9, 0), step(api.StepFree, 2, 0, 0), step(api.StepFree, 99, 0, 0), step(api.StepUse, 7, 0, 0), exit))
	w.System, _, _ = paging.Open(w.System, 8)
	for i, want := range []api.Holding{{Group: 2, Anon: 5}, {Group: 2, File: 3, Anon: 5}, {Group: 2, File: 3, Anon: 5}, {Group: 2, File: 3, Anon: 3}, {Group: 2, File: 3}, {Group: 2, File: 3}} {
		w, _ = run(t, w, 1)
		if h := swap.Get(w.System.Stock, 2); h != want {
			t.Error(i, h)
		}
		at(w, 1, i+1)
	}
	w, _ = run(t, w, 1)
	if len(w.Runners) != 0 || len(w.System.Hierarchy.Tasks) != 0 {
		t.Error("exit", w.Runners)
	}
	// Swapped pages are brought back.
	s := setup()
	s.SwapSize = 50
	w = start(t, s, program(step(api.StepAlloc, 8, 0, 0), step(api.StepAlloc, 8, 0, 0), step(api.StepUse, 2, 0, 0), step(api.StepUse, 9, 0, 0), step(api.StepFree, 3, 0, 0)))
	w = set(t, w, func(s *api.Settings) { s.Memory.Max = 10 })
	w, _ = run(t, w, 2)
	w = set(t, w, func(s *api.Settings) { s.Memory.Max = 50 })
	for i, want := range [][2]int{{12, 4}, {16, 0}, {13, 0}} {
		w, _ = run(t, w, 1)
		if anon, swapped := private.Pages(w.System.Residents, 1); anon != want[0] || swapped != want[1] {
			t.Error(i, anon, swapped)
		}
	}
	w = start(t, s, program(step(api.StepAlloc, 8, 0, 0), step(api.StepAlloc, 8, 0, 0), step(api.StepFree, 15, 0, 0)))
	w = set(t, w, func(s *api.Settings) { s.Memory.Max = 10 })
	w, _ = run(t, w, 3)
	if anon, swapped := private.Pages(w.System.Residents, 1); anon+swapped != 1 {
		t.Error(anon, swapped)
	}
	// A task that is killed by one that ran ahead of it in the same tick does nothing more.
	s.SwapSize, s.Machine.Domains, s.Online = 0, []int{0, 0}, []int{0, 1}
	w = start(t, s, program(step(api.StepSleep, 3, 0, 0), step(api.StepAlloc, 5, 0, 0)), program(step(api.StepAlloc, 9, 0, 0), compute(90)))
	w = set(t, w, func(s *api.Settings) { s.Memory.Max = 10 })
	w, _ = run(t, w, 3)
	if next, reports := run(t, w, 1); !eq(reports[0].Ran, []api.Assignment{{CPU: 0, Task: 1}, {CPU: 1, Task: 2}}) || !eq(reports[0].Killed, []int{2}) || len(next.Runners) != 1 {
		t.Error(reports, next.Runners)
	}
	// A limit that was lowered is enforced at the beginning of a tick: a killed task does not run in it.
	w = start(t, setup(), program(step(api.StepAlloc, 8, 0, 0), compute(90)), program(compute(90)))
	w.System, _ = estate.Set(w.System, 0, 2, settings.Default())
	for w.System.Stock.Holdings == nil {
		w, _ = run(t, w, 1)
	}
	w = set(t, w, func(s *api.Settings) { s.Memory.Max = 4 })
	if next, reports := run(t, w, 1); !eq(reports[0].Killed, []int{1}) || !eq(reports[0].Ran, []api.Assignment{{CPU: 0, Task: 2}}) || len(next.Runners) != 1 {
		t.Error(reports)
	}
	// Without memory, the group that refuses loses a process; if that is not the task itself, it tries again.
	w = start(t, setup(), program(step(api.StepAlloc, 9, 0, 0), step(api.StepSleep, 99, 0, 0)), program(step(api.StepSleep, 3, 0, 0), step(api.StepAlloc, 3, 0, 0), exit))
	w = set(t, w, func(s *api.Settings) { s.Memory.Max = 10 })
	killed := 0
	for range 12 {
		var reports []api.Report
		w, reports = run(t, w, 1)
		if len(reports[0].Killed) > 0 {
			killed = w.System.Now
			if r, _ := runner(w, 2); !eq(reports[0].Killed, []int{1}) || r.State != api.RunMemory || r.At != 1 {
				t.Error(reports, r)
			}
			if p, _ := pressure.Get(w.System.Gauge, 2, api.PressureMemory); p.Some.Total != 1 {
				t.Error(p)
			}
		}
	}
	if killed == 0 || len(w.System.Hierarchy.Tasks) != 0 {
		t.Error(killed, w.System.Hierarchy.Tasks)
	}
	// Nobody can be killed: the task waits.
	w = start(t, setup(), program(step(api.StepAlloc, 9, 0, 0)))
	w = set(t, w, func(s *api.Settings) { s.Memory.Max = 5 })
	w.System, _ = paging.Adjust(w.System, 1, -1000)
	w, reports := run(t, w, 3)
	if r, _ := runner(w, 1); r.State != api.RunMemory || r.At != 0 || len(reports[2].Killed) != 0 || len(reports[2].Ran) != 1 {
		t.Error(r, reports)
	}
	// Devices: one that there is, one that there is not, and one that is full.
	w = start(t, setup(), program(step(api.StepWrite, 2, 0, 5), step(api.StepRead, 2, 1, 5), compute(9)))
	w, _ = run(t, w, 1)
	if r, _ := runner(w, 1); r.State != api.RunDevice || !eq(w.System.Devices[0].Queue, []api.Request{{Task: 1, Group: 2, At: 5, Pages: 2, Write: true, Time: 1}}) {
		t.Error(r, w.System.Devices[0])
	}
	w, reports = run(t, w, 3)
	at(w, 1, 2)
	if len(reports[1].Ended) != 1 {
		t.Error(reports)
	}
	w = start(t, setup(), program(step(api.StepRead, 2, 0, 5)))
	for range 256 {
		w.System.Devices[0], _ = device.Submit(w.System.Hierarchy.Tree, w.System.Devices[0], api.Request{Group: 1, Pages: 4096})
	}
	w, _ = run(t, w, 2)
	if r, _ := runner(w, 1); r.State != api.RunReady || r.At != 0 || device.Pending(w.System.Devices[0], 1) != 0 {
		t.Error(r)
	}
	// Sleep, up to the end of time.
	w = start(t, setup(), program(step(api.StepSleep, 3, 0, 0), compute(2)))
	w, _ = run(t, w, 1)
	if r, _ := runner(w, 1); r.State != api.RunSleep || r.Until != 4 {
		t.Error(r)
	}
	w, reports = run(t, w, 3)
	if r, _ := runner(w, 1); r.At != 1 || r.Left != 1 || len(reports[1].Ran) != 0 {
		t.Error(r)
	}
	w = start(t, setup(), program(step(api.StepSleep, api.MaxTime, 0, 0)))
	w, _ = run(t, w, 1)
	if r, _ := runner(w, 1); r.Until != api.MaxTime {
		t.Error(r)
	}
	// Forks: a process, a thread, and one that is refused.
	w = start(t, setup(), program(step(api.StepFork, 0, 1, 0), step(api.StepClone, 0, 1, 0), step(api.StepClone, 0, 1, 0), step(api.StepFork, 0, 1, 0), exit), program(compute(50)))
	w.System, _ = estate.Exit(w.System, 2)
	w = machine.Prune(w)
	w.System.Hierarchy.Tasks[0].User = 5
	w = set(t, w, func(s *api.Settings) { s.PidsMax = 3 })
	var refused []int
	for range 16 {
		w, reports = run(t, w, 1)
		refused = append(refused, reports[0].Refused...)
	}
	if !eq(refused, []int{1, 1}) || !eq(w.System.Hierarchy.Tasks, []api.Task{{ID: 3, Process: 3, Group: 2, User: 5}}) || !eq(w.Programs[1].Steps[0], compute(50)) {
		t.Error(refused, w.System.Hierarchy.Tasks)
	}
	if c, _ := pids.Get(w.System.Counts, 2); c.Events != 2 || c.Peak != 3 {
		t.Error(c)
	}
	// From StepAgain to the first step; a program that is over leaves a task that does nothing.
	w = start(t, setup(), program(compute(1), step(api.StepAgain, 0, 0, 0)))
	w, _ = run(t, w, 4)
	if r, _ := runner(w, 1); r.At != 0 || r.Left != 1 {
		t.Error(r)
	}
	w = start(t, setup(), program(compute(1)))
	w, reports = run(t, w, 3)
	if r, _ := runner(w, 1); r.State != api.RunDone || len(reports[1].Ran) != 0 || len(w.System.Hierarchy.Tasks) != 1 {
		t.Error(r)
	}
}

// TestP42_5Threads: memory and requests of a task in a threaded group are charged to its domain, forks go to the group itself.
func TestP42_5Threads(t *testing.T) {
	w := start(t, setup(), program(step(api.StepAlloc, 5, 0, 0), step(api.StepRead, 2, 0, 0), step(api.StepFork, 0, 1, 0), exit), program(compute(50)))
	w.System, _ = estate.Exit(w.System, 2)
	w = machine.Prune(w)
	w.System, _, _ = estate.Create(w.System, 0, 2, "t")
	var e api.Errno
	if w.System, e = estate.Convert(w.System, 0, 3); e != api.OK {
		t.Fatal(e)
	}
	w.System, _ = estate.MoveThread(w.System, 0, 1, 3)
	w, _ = run(t, w, 2)
	if swap.Get(w.System.Stock, 2).Anon != 5 || len(w.System.Devices[0].Queue) != 1 || w.System.Devices[0].Queue[0].Group != 2 {
		t.Error(w.System.Stock, w.System.Devices[0].Queue)
	}
	w, _ = run(t, w, 8)
	if k, _ := member.Find(w.System.Hierarchy, 3); k.Group != 3 {
		t.Error(w.System.Hierarchy.Tasks)
	}
}

func TestP42_6(t *testing.T) {
	w := start(t, setup(), program(compute(3)), program(step(api.StepAlloc, 4, 0, 0), step(api.StepSleep, 4, 0, 0), exit))
	want := w
	var reports []api.Report
	for range 5 {
		next, r, _ := machine.Tick(want)
		want = next
		reports = append(reports, r)
	}
	before := fmt.Sprint(w)
	got, l, e := machine.Run(w, 5)
	if e != api.OK || !eq(got, want) || !eq(l, reports) {
		t.Error(got, l, e)
	}
	got, l, e = machine.Run(w, 0)
	if e != api.OK || !eq(got, w) || l != nil {
		t.Error(e)
	}
	if got.Runners[0].Task = 9; fmt.Sprint(w) != before {
		t.Error("memory is shared")
	}
	for _, n := range []int{-1, api.MaxTicks + 1} {
		for _, w := range []api.World{w, {}} {
			if got, l, e := machine.Run(w, n); e != api.ErrRange || !eq(got, api.World{}) || l != nil {
				t.Error(n, e)
			}
		}
	}
	if _, _, e := machine.Run(api.World{}, 3); e != api.ErrInvalid {
		t.Error(e)
	}
	late := copies.World(w)
	late.System.Now, late.System.Devices[0].Now = api.MaxTime-2, api.MaxTime-2
	if got, l, e := machine.Run(late, 5); e != api.ErrRange || len(l) != 2 || got.System.Now != api.MaxTime || !machine.Valid(got) {
		t.Error(e, len(l))
	}
	idle, _ := machine.New(setup(), nil)
	if got, l, e := machine.Run(idle, api.MaxTicks); e != api.OK || len(l) != api.MaxTicks || got.System.Now != api.MaxTicks {
		t.Error(e, len(l))
	}
	w, _ = run(t, w, 2)
	for id, want := range map[int]int{1: 4, 2: 4} {
		if n, e := machine.Usage(w, id); n != want || e != api.OK {
			t.Error(id, n, e)
		}
	}
	if n, e := machine.Usage(w, 9); n != 0 || e != api.ErrUnknown {
		t.Error(n, e)
	}
	w.System.Now = 77
	if n, e := machine.Usage(w, 9); n != 0 || e != api.ErrInvalid {
		t.Error(n, e)
	}
}

// TestExample plays the examples of chapter 42.
func TestExample(t *testing.T) {
	w := start(t, setup(), program(compute(3)), program(compute(3)))
	_, reports := run(t, w, 7)
	for i, r := range reports {
		if len(r.Ran) != 1 && i < 6 || len(r.Ran) != 0 && i == 6 {
			t.Error(i, r)
		}
	}
	w = start(t, setup(), program(step(api.StepAlloc, 5, 0, 0)))
	w = set(t, w, func(s *api.Settings) { s.Memory.Max = 3 })
	if w, reports := run(t, w, 1); !eq(reports[0].Killed, []int{1}) || len(w.Runners) != 0 {
		t.Error(reports)
	}
	w = start(t, setup(), program(step(api.StepRead, 3, 0, 0), compute(1)))
	for now, want := range []int{0, 0, 0, 1} {
		w, _ = run(t, w, 1)
		if r, _ := runner(w, 1); min(r.At, 1) != want {
			t.Error(now+1, r)
		}
	}
}

// random returns a world with some groups, settings, objects and programs.
func random(t *testing.T, r *rand.Rand) api.World {
	s := setup()
	s.Machine.Domains, s.Online, s.Pages, s.SwapSize = []int{0, 1}, []int{0, 1}, 20+r.Intn(60), r.Intn(2)*r.Intn(20)
	s.Devices = append(s.Devices, api.DeviceConfig{Model: api.Model{ReadBase: 3, ReadPage: 2, Seek: 4}, Speed: 7, Margin: 5})
	var programs []api.Program
	for range 4 {
		var l []api.Step
		for range 1 + r.Intn(6) {
			l = append(l, []api.Step{compute(1 + r.Intn(3)), compute(1), step(api.StepAlloc, 1+r.Intn(12), 0, 0), step(api.StepFree, 1+r.Intn(12), 0, 0), step(api.StepTouch, 1+r.Intn(30), 1+r.Intn(3), 0), step(api.StepUse, 1+r.Intn(6), 0, 0), step(api.StepRead, 1+r.Intn(5), r.Intn(3), r.Intn(20)), step(api.StepWrite, 1+r.Intn(5), r.Intn(3), r.Intn(20)), step(api.StepSleep, 1+r.Intn(4), 0, 0), step(api.StepFork, 0, r.Intn(4), 0), step(api.StepClone, 0, r.Intn(4), 0), exit, step(api.StepAgain, 0, 0, 0)}[r.Intn(13)])
		}
		programs = append(programs, api.Program{Steps: l})
	}
	w, e := machine.New(s, programs)
	if e != api.OK {
		t.Fatal(e)
	}
	y := w.System
	y, _ = estate.Control(y, 0, 1, api.AllControllers, 0)
	for range 4 {
		if z, _, e := estate.Create(y, 0, 1+r.Intn(3), string(rune('a'+r.Intn(3)))); e == api.OK {
			y = z
		}
	}
	if z, e := estate.Convert(y, 0, y.Hierarchy.Tree.Nodes[len(y.Hierarchy.Tree.Nodes)-1].ID); e == api.OK && r.Intn(2) == 0 {
		y = z
	}
	for _, n := range y.Hierarchy.Tree.Nodes[1:] {
		c := settings.Default()
		c.PidsMax, c.Weight, c.Quota, c.Period = 1+r.Intn(5), 1+r.Intn(300), 1+r.Intn(8), 5
		c.Memory.Max, c.Memory.High, c.Memory.Min, c.Memory.Together = 8+r.Intn(20), 5+r.Intn(40), r.Intn(6), r.Intn(4) == 0
		c.Devices = []api.DeviceSettings{{Device: 0, Weight: 1 + r.Intn(300), ReadPages: api.Max, WritePages: 10, ReadOps: 1 + r.Intn(50), WriteOps: api.Max, Target: r.Intn(5)}}
		if y, e = estate.Set(y, 0, n.ID, c); e != api.OK {
			t.Fatal(e)
		}
	}
	y, _, _ = paging.Open(y, 20)
	y, _, _ = paging.Open(y, 10)
	w.System = y
	for range 5 {
		if next, id, e := machine.Spawn(w, y.Hierarchy.Tree.Nodes[r.Intn(len(y.Hierarchy.Tree.Nodes))].ID, r.Intn(3), r.Intn(4)); e == api.OK {
			w = next
			if r.Intn(4) == 0 {
				w.System, _ = paging.Adjust(w.System, id, -1000)
			}
		}
	}
	return w
}

// TestConsequences compares with tick, and checks what chapter 42 and the theorems of the document say.
func TestConsequences(t *testing.T) {
	r := rand.New(rand.NewSource(44))
	seen := map[string]int{}
	for range 80 {
		w := random(t, r)
		for range 25 {
			if r.Intn(5) == 0 {
				nodes := w.System.Hierarchy.Tree.Nodes
				if y, e := estate.Freeze(w.System, 0, nodes[r.Intn(len(nodes))].ID, r.Intn(2) == 0); e == api.OK {
					w.System = y
				}
			}
			if r.Intn(5) == 0 {
				nodes := w.System.Hierarchy.Tree.Nodes
				id := nodes[r.Intn(len(nodes))].ID
				c := settings.Get(w.System.Configs, id)
				c.Memory.Max = 1 + r.Intn(20)
				if y, e := estate.Set(w.System, 0, id, c); e == api.OK {
					w.System = y
				}
			}
			want, report := tick(w)
			next, got, e := machine.Tick(w)
			if e != api.OK || !eq(next, want) || !eq(got, report) || !machine.Valid(next) {
				t.Fatal(e, got, report)
			}
			check(t, w, next, got)
			seen["killed"] += len(got.Killed)
			seen["refused"] += len(got.Refused)
			seen["ended"] += len(got.Ended)
			seen["ran"] += len(got.Ran)
			w = next
		}
	}
	for _, what := range []string{"killed", "refused", "ended", "ran"} {
		if seen[what] < 10 {
			t.Error(what, seen[what])
		}
	}
}

// check compares a world with the one before it.
func check(t *testing.T, w, next api.World, got api.Report) {
	t.Helper()
	memory := estate.Memory(next.System)
	for _, n := range next.System.Hierarchy.Tree.Nodes {
		a, _ := machine.Usage(w, n.ID)
		b, _ := machine.Usage(next, n.ID)
		if most := limit.Settings(memory, n.ID).Max; b > most && a <= most {
			t.Fatal("memory", n, a, b)
		}
		c, _ := pids.Get(w.System.Counts, n.ID)
		d, _ := pids.Get(next.System.Counts, n.ID)
		if d.Now > d.Limit && d.Now > c.Now {
			t.Fatal("tasks", n, c, d)
		}
		if f := freeze.Get(next.System.Freezer, n.ID); f.Frozen {
			for _, a := range got.Ran {
				k, _ := member.Find(next.System.Hierarchy, a.Task)
				if slices.Contains(tree.Subtree(next.System.Hierarchy.Tree, n.ID), k.Group) {
					t.Fatal("a task of a frozen group runs", a)
				}
			}
		}
	}
	for _, p := range got.Killed {
		anon, swapped := private.Pages(next.System.Residents, p)
		queued := slices.ContainsFunc(next.System.Devices, func(d api.Device) bool {
			return slices.ContainsFunc(d.Queue, func(r api.Request) bool { return r.Task == p })
		})
		if _, ok := member.Find(next.System.Hierarchy, p); ok || anon+swapped > 0 || queued {
			t.Fatal("a killed process is still there", p)
		}
	}
	if n, _ := counter.Total(next.System.Hierarchy.Tree, swap.Counter(next.System.Stock), 1); n > next.System.Setup.Pages {
		t.Fatal("the machine", n)
	}
}
