package paging_test

import (
	"fmt"
	"math/rand"
	"slices"
	"testing"

	"groupcontrol/api"
	"groupcontrol/copies"
	"groupcontrol/counter"
	"groupcontrol/estate"
	"groupcontrol/event"
	"groupcontrol/kill"
	"groupcontrol/limit"
	"groupcontrol/paging"
	"groupcontrol/private"
	"groupcontrol/settings"
	"groupcontrol/shared"
	"groupcontrol/swap"
	"groupcontrol/threaded"
	"groupcontrol/tree"
)

func eq(a, b any) bool { return fmt.Sprint(a) == fmt.Sprint(b) }

func setup() api.Setup {
	return api.Setup{Machine: api.Machine{Domains: []int{0}}, Online: []int{0}, Slice: 3, Pages: 100, SwapSize: 50, Period: 10, Devices: []api.DeviceConfig{{Speed: 5}}}
}

// base has /a (2), the threaded /a/t (3), /b (4) and /b/c (5). The process 1 has its leader in /a/t and the thread 2 in /a; the process 3 is in /b/c, the process 4 in /b, the process 5 in /.
// The object 1 has 20 pages, 10 of them in memory.
func base() api.System {
	y, e := estate.New(setup())
	must := func(z api.System, f api.Errno) {
		if f != api.OK {
			panic(f)
		}
		y = z
	}
	must(y, e)
	for _, x := range []struct {
		parent int
		name   string
	}{{1, "a"}, {2, "t"}, {1, "b"}, {4, "c"}} {
		z, _, e := estate.Create(y, 0, x.parent, x.name)
		must(z, e)
	}
	must(estate.Convert(y, 0, 3))
	for _, group := range []int{3, 0, 5, 4, 1} {
		if group == 0 {
			z, _, e := estate.Clone(y, 1)
			must(z, e)
			must(estate.MoveThread(y, 0, 2, 2))
			continue
		}
		z, _, e := estate.Spawn(y, group, group)
		must(z, e)
	}
	y.Objects = []api.Object{{ID: 1, Size: 20, Parts: []api.Charge{{Group: 2, Own: 4}, {Group: 5, Own: 6}}}}
	y.Residents = []api.Resident{{Process: 1, Group: 2, Anon: 10, Swap: 2}, {Process: 1, Group: 5, Anon: 3, Swap: 4}, {Process: 3, Group: 5, Anon: 8}, {Process: 4, Group: 4, Anon: 5}}
	y.Stock.Holdings = []api.Holding{{Group: 2, File: 4, Anon: 10, Swap: 2}, {Group: 4, Anon: 5}, {Group: 5, File: 6, Anon: 11, Swap: 4}}
	y.Adjusts = []api.Adjustment{{Process: 3, Value: -10}}
	if !estate.Valid(y) {
		panic("base")
	}
	return y
}

// given returns base with other memory settings of some groups.
func given(change func(id int, m *api.MemorySettings)) api.System {
	y := base()
	for i := range y.Configs {
		change(y.Configs[i].Group, &y.Configs[i].Settings.Memory)
	}
	return y
}

func most(group, n int) func(int, *api.MemorySettings) {
	return func(id int, m *api.MemorySettings) {
		if id == group {
			m.Max = n
		}
	}
}

var (
	wrong = func() api.System { y := base(); y.Now = 1; return y }()
	empty = api.System{}
)

// compare compares a system with what is expected, and sees that it shares no memory with the argument.
func compare(t *testing.T, i any, y, got, want api.System, e, f api.Errno) {
	t.Helper()
	before := fmt.Sprint(y)
	if e != f || !eq(got, want) {
		t.Errorf("%v: %v\n%v\n%v", i, e, got, want)
	}
	if (e == api.OK || e == api.ErrMemory) && !estate.Valid(got) {
		t.Error(i, "not valid")
	}
	for k := range got.Stock.Holdings {
		got.Stock.Holdings[k].Group = 99
	}
	for k := range got.Residents {
		got.Residents[k].Group = 99
	}
	for k := range got.Objects {
		got.Objects[k].ID = 99
	}
	for k := range got.Tallies {
		got.Tallies[k].Group = 99
	}
	for k := range got.Adjusts {
		got.Adjusts[k].Process = 99
	}
	for k := range got.Hierarchy.Tasks {
		got.Hierarchy.Tasks[k].ID = 99
	}
	for k := range got.Processors.Pools {
		got.Processors.Pools[k].Group = 99
	}
	if fmt.Sprint(y) != before {
		t.Error(i, "memory is shared")
	}
}

// settle does word by word what it means to settle a growth.
func settle(y api.System, g api.Growth) api.System {
	z, e := estate.Absorb(y, g.Stock, g.Shrinks)
	if e != api.OK {
		panic(e)
	}
	add := func(ids []int, kind int) {
		for _, id := range ids {
			if l, e := event.Add(z.Hierarchy.Tree, z.Tallies, id, kind, 1); e == api.OK {
				z.Tallies = l
			}
		}
	}
	add(g.Maxes, api.EventMax)
	add(g.Highs, api.EventHigh)
	if g.Refused != 0 {
		add([]int{g.Refused}, api.EventOOM)
	}
	return z
}

func TestP40_1(t *testing.T) {
	tight := given(most(2, 16))
	refused := given(func(id int, m *api.MemorySettings) {
		if id == 2 {
			m.Max, m.SwapMax = 16, 3
		}
	})
	high := given(func(id int, m *api.MemorySettings) {
		if id == 4 {
			m.High, m.SwapMax = 20, 5
		}
	})
	loud := copies.System(refused)
	loud.Tallies[1].Counts = [6]int{0, 0, api.MaxValue, api.MaxValue}
	for i, x := range []struct {
		y          api.System
		process, n int
		group      int
		e          api.Errno
	}{
		{base(), 1, 7, 2, api.OK}, {base(), 3, 0, 5, api.OK}, {base(), 5, 9, 1, api.OK}, {tight, 1, 8, 2, api.OK}, {tight, 1, 16, 2, api.OK}, {tight, 4, 9, 4, api.OK}, {high, 3, 5, 5, api.OK}, {high, 4, 30, 4, api.OK}, {refused, 1, 8, 2, api.ErrMemory}, {loud, 1, 8, 2, api.ErrMemory}, {base(), 4, 101, 4, api.ErrMemory}, {base(), 4, api.MaxPages, 4, api.ErrMemory}, {refused, 1, 16, 2, api.ErrMemory},
	} {
		y, g, e := paging.Alloc(x.y, x.process, x.n)
		growth, f := limit.Grow(x.y.Hierarchy.Tree, x.y.Stock, estate.Memory(x.y), x.group, 0, x.n)
		want := copies.System(x.y)
		if f == api.OK {
			want.Residents, _ = private.Add(want.Hierarchy, want.Residents, x.process, x.group, x.n)
		}
		if !eq(g, growth) || f != x.e {
			t.Error(i, g, growth)
		}
		for k := range g.Stock.Holdings {
			g.Stock.Holdings[k].Group = 99
		}
		compare(t, i, x.y, y, settle(want, growth), e, x.e)
	}
	for i, x := range []struct {
		y          api.System
		process, n int
		e          api.Errno
	}{{wrong, 9, -1, api.ErrInvalid}, {base(), 2, -1, api.ErrUnknown}, {base(), 9, -1, api.ErrUnknown}, {base(), 1, -1, api.ErrRange}, {base(), 1, api.MaxPages + 1, api.ErrRange}} {
		if y, g, e := paging.Alloc(x.y, x.process, x.n); e != x.e || !eq(y, empty) || !eq(g, api.Growth{}) {
			t.Error(i, e)
		}
	}
}

func TestP40_2(t *testing.T) {
	for i, x := range []struct {
		y          api.System
		process, n int
		residents  []api.Resident
		holdings   []api.Holding
		e          api.Errno
	}{
		{base(), 1, 0, base().Residents, base().Stock.Holdings, api.OK},
		{base(), 1, 5, []api.Resident{{Process: 1, Group: 2, Anon: 7}, {Process: 1, Group: 5, Anon: 3, Swap: 4}, {Process: 3, Group: 5, Anon: 8}, {Process: 4, Group: 4, Anon: 5}}, []api.Holding{{Group: 2, File: 4, Anon: 7}, {Group: 4, Anon: 5}, {Group: 5, File: 6, Anon: 11, Swap: 4}}, api.OK},
		{base(), 1, 19, base().Residents[2:], []api.Holding{{Group: 2, File: 4}, {Group: 4, Anon: 5}, {Group: 5, File: 6, Anon: 8}}, api.OK},
		{base(), 4, 5, base().Residents[:3], []api.Holding{{Group: 2, File: 4, Anon: 10, Swap: 2}, {Group: 5, File: 6, Anon: 11, Swap: 4}}, api.OK},
		{wrong, 9, -1, nil, nil, api.ErrInvalid}, {base(), 2, -1, nil, nil, api.ErrUnknown}, {base(), 1, -1, nil, nil, api.ErrRange}, {base(), 1, 20, nil, nil, api.ErrRange},
	} {
		var want api.System
		if x.e == api.OK {
			want = copies.System(x.y)
			want.Residents, want.Stock.Holdings = x.residents, x.holdings
		}
		y, e := paging.Free(x.y, x.process, x.n)
		compare(t, i, x.y, y, want, e, x.e)
	}
}

func TestP40_3(t *testing.T) {
	tight := given(most(2, 16))
	none := given(func(id int, m *api.MemorySettings) {
		if id == 2 {
			m.Max, m.SwapMax = 14, 2
		}
	})
	over := given(func(id int, m *api.MemorySettings) {
		if id == 2 {
			m.Max, m.SwapMax = 9, 2
		}
	})
	for i, x := range []struct {
		y                  api.System
		process, object, n int
		group              int
		e                  api.Errno
	}{
		{base(), 1, 1, 15, 2, api.OK}, {base(), 3, 1, 8, 5, api.OK}, {base(), 5, 1, api.MaxPages, 1, api.OK}, {tight, 1, 1, 15, 2, api.OK}, {none, 1, 1, 14, 2, api.OK}, {none, 1, 1, 20, 2, api.ErrMemory}, {over, 1, 1, 5, 2, api.ErrMemory}, {base(), 4, 1, 0, 4, api.OK},
	} {
		y, g, e := paging.Touch(x.y, x.process, x.object, x.n)
		need, _ := shared.Need(x.y.Hierarchy.Tree, x.y.Objects, x.object, x.n)
		growth, f := limit.Grow(x.y.Hierarchy.Tree, x.y.Stock, estate.Memory(x.y), x.group, need, 0)
		want := copies.System(x.y)
		if f == api.OK {
			want.Objects, _ = shared.Bring(want.Hierarchy.Tree, want.Objects, x.object, x.group, need)
		}
		if !eq(g, growth) || f != x.e {
			t.Error(i, g, growth, f)
		}
		compare(t, i, x.y, y, settle(want, growth), e, x.e)
	}
	for i, x := range []struct {
		y                  api.System
		process, object, n int
		e                  api.Errno
	}{{wrong, 9, 9, -1, api.ErrInvalid}, {base(), 2, 1, -1, api.ErrUnknown}, {base(), 1, 2, -1, api.ErrUnknown}, {base(), 9, 9, -1, api.ErrUnknown}, {base(), 1, 1, -1, api.ErrRange}, {base(), 1, 1, api.MaxPages + 1, api.ErrRange}} {
		if y, g, e := paging.Touch(x.y, x.process, x.object, x.n); e != x.e || !eq(y, empty) || !eq(g, api.Growth{}) {
			t.Error(i, e)
		}
	}
}

// use does word by word what Use promises.
func use(y api.System, process, n int) (api.System, api.Growth, api.Errno) {
	memory := estate.Memory(y)
	sum := api.Growth{Stock: y.Stock}
	z := copies.System(y)
	for _, r := range y.Residents {
		if r.Process != process || n == 0 {
			continue
		}
		present := 0
		for _, x := range z.Residents {
			if x.Process == process && x.Group == r.Group {
				present = x.Swap
			}
		}
		k := min(n, present)
		if k == 0 {
			continue
		}
		n -= k
		g, e := limit.Back(z.Hierarchy.Tree, z.Stock, memory, r.Group, k)
		if e == api.OK {
			z.Residents, _ = private.In(z.Hierarchy, z.Residents, process, r.Group, k)
		}
		z = settle(z, g)
		sum = api.Growth{Stock: g.Stock, Shrinks: slices.Concat(sum.Shrinks, g.Shrinks), Maxes: slices.Concat(sum.Maxes, g.Maxes), Highs: slices.Concat(sum.Highs, g.Highs), Refused: g.Refused}
		if e != api.OK {
			return z, sum, e
		}
	}
	return z, sum, api.OK
}

func TestP40_4(t *testing.T) {
	both := given(func(id int, m *api.MemorySettings) {
		if id == 2 {
			m.Max = 14
		}
		if id == 4 {
			m.High = 20
		}
	})
	refused := given(func(id int, m *api.MemorySettings) {
		if id == 4 {
			m.Max, m.SwapMax = 16, 4
		}
	})
	first := given(func(id int, m *api.MemorySettings) {
		if id == 2 {
			m.Max, m.SwapMax = 10, 2
		}
	})
	spread := base()
	spread.Residents = []api.Resident{{Process: 1, Group: 5, Anon: 3, Swap: 1}, {Process: 3, Group: 2, Anon: 10, Swap: 2}, {Process: 3, Group: 5, Anon: 8, Swap: 3}, {Process: 4, Group: 4, Anon: 5}}
	for i, x := range []struct {
		y          api.System
		process, n int
		e          api.Errno
	}{{spread, 3, 3, api.OK}, {spread, 3, 5, api.OK}, {spread, 1, 1, api.OK}, {base(), 1, 0, api.OK}, {base(), 3, 0, api.OK}, {base(), 1, 1, api.OK}, {base(), 1, 2, api.OK}, {base(), 1, 3, api.OK}, {base(), 1, 6, api.OK}, {both, 1, 6, api.OK}, {refused, 1, 2, api.OK}, {refused, 1, 6, api.ErrMemory}, {first, 1, 6, api.ErrMemory}} {
		y, g, e := paging.Use(x.y, x.process, x.n)
		want, growth, f := use(x.y, x.process, x.n)
		if !eq(g, growth) || f != x.e {
			t.Error(i, g, growth, f)
		}
		before := fmt.Sprint(x.y)
		for k := range g.Stock.Holdings {
			g.Stock.Holdings[k].Group = 99
		}
		if fmt.Sprint(x.y) != before {
			t.Error(i, "memory is shared")
		}
		compare(t, i, x.y, y, want, e, x.e)
	}
	for i, x := range []struct {
		y          api.System
		process, n int
		e          api.Errno
	}{{wrong, 9, -1, api.ErrInvalid}, {base(), 2, -1, api.ErrUnknown}, {base(), 9, 0, api.ErrUnknown}, {base(), 1, -1, api.ErrRange}, {base(), 1, 7, api.ErrRange}, {base(), 3, 1, api.ErrRange}} {
		if y, g, e := paging.Use(x.y, x.process, x.n); e != x.e || !eq(y, empty) || !eq(g, api.Growth{}) {
			t.Error(i, e)
		}
	}
}

func TestP40_5(t *testing.T) {
	for i, x := range []struct {
		y    api.System
		size int
		id   int
		e    api.Errno
	}{{base(), 7, 2, api.OK}, {base(), api.MaxPages, 2, api.OK}, {wrong, 0, 0, api.ErrInvalid}, {base(), 0, 0, api.ErrRange}, {base(), api.MaxPages + 1, 0, api.ErrRange}} {
		var want api.System
		if x.e == api.OK {
			want = copies.System(x.y)
			want.Objects = append(want.Objects, api.Object{ID: 2, Size: x.size})
		}
		y, id, e := paging.Open(x.y, x.size)
		if id != x.id {
			t.Error(i, id)
		}
		compare(t, i, x.y, y, want, e, x.e)
	}
	for i, x := range []struct {
		y              api.System
		process, value int
		want           []api.Adjustment
		e              api.Errno
	}{
		{base(), 1, 5, []api.Adjustment{{Process: 1, Value: 5}, {Process: 3, Value: -10}}, api.OK}, {base(), 3, 1000, []api.Adjustment{{Process: 3, Value: 1000}}, api.OK}, {base(), 3, 0, nil, api.OK}, {base(), 4, 0, []api.Adjustment{{Process: 3, Value: -10}}, api.OK}, {base(), 5, -1000, []api.Adjustment{{Process: 3, Value: -10}, {Process: 5, Value: -1000}}, api.OK},
		{wrong, 9, 5000, nil, api.ErrInvalid}, {base(), 2, 5000, nil, api.ErrUnknown}, {base(), 9, 5, nil, api.ErrUnknown}, {base(), 1, 1001, nil, api.ErrRange}, {base(), 1, -1001, nil, api.ErrRange},
	} {
		var want api.System
		if x.e == api.OK {
			want = copies.System(x.y)
			want.Adjusts = x.want
		}
		y, e := paging.Adjust(x.y, x.process, x.value)
		compare(t, i, x.y, y, want, e, x.e)
	}
}

func TestP40_6(t *testing.T) {
	want := []api.Candidate{{Process: 1, Group: 2, Pages: 19}, {Process: 3, Group: 5, Pages: 8, Adjust: -10}, {Process: 4, Group: 4, Pages: 5}, {Process: 5, Group: 1}}
	if l := paging.Candidates(base()); !eq(l, want) {
		t.Error(l)
	}
	if l := paging.Candidates(wrong); l != nil {
		t.Error(l)
	}
	// Few pages of memory that is full, and many that are swapped, are more than MaxPages.
	huge := base()
	huge.Setup.SwapSize, huge.Stock.SwapSize = api.MaxPages/2, api.MaxPages/2
	huge.Objects = nil
	huge.Residents = []api.Resident{{Process: 1, Group: 2, Anon: api.MaxPages, Swap: 5}}
	huge.Stock.Holdings = []api.Holding{{Group: 2, Anon: api.MaxPages, Swap: 5}}
	if l := paging.Candidates(huge); len(l) == 0 || l[0].Pages != api.MaxPages {
		t.Error(l)
	}
	together := given(func(id int, m *api.MemorySettings) { m.Together = id == 4 })
	spared := base()
	spared.Adjusts = []api.Adjustment{{Process: 3, Value: -1000}, {Process: 4, Value: -1000}}
	loud := base()
	loud.Tallies[1].Counts[api.EventKill] = api.MaxValue
	for i, x := range []struct {
		y  api.System
		at int
		e  api.Errno
	}{{base(), 1, api.OK}, {base(), 4, api.OK}, {base(), 5, api.OK}, {together, 4, api.OK}, {together, 5, api.OK}, {loud, 1, api.OK}, {spared, 4, api.ErrNone}, {base(), 3, api.ErrNone}, {wrong, 9, api.ErrInvalid}, {base(), 9, api.ErrUnknown}} {
		var groups []int
		for _, c := range x.y.Configs {
			if c.Settings.Memory.Together {
				groups = append(groups, c.Group)
			}
		}
		k, f := kill.Decide(x.y.Hierarchy.Tree, paging.Candidates(x.y), groups, x.at, 100)
		var want api.System
		if x.e == api.OK {
			want = x.y
			for _, p := range k.Processes {
				c := paging.Candidates(x.y)
				group := c[slices.IndexFunc(c, func(c api.Candidate) bool { return c.Process == p })].Group
				want, _ = estate.Exit(want, p)
				if l, e := event.Add(want.Hierarchy.Tree, want.Tallies, group, api.EventKill, 1); e == api.OK {
					want.Tallies = l
				}
			}
		}
		y, got, e := paging.Kill(x.y, x.at)
		if !eq(got, k) || x.e != api.ErrInvalid && f != x.e {
			t.Error(i, got, k)
		}
		compare(t, i, x.y, y, want, e, x.e)
	}
	if y, k, _ := paging.Kill(together, 4); !eq(k.Processes, []int{3, 4}) || k.Group != 4 || event.Own(y.Tallies, 5, api.EventKill) != 1 || event.Own(y.Tallies, 4, api.EventKill) != 1 {
		t.Error(k)
	}
}

// enforce does word by word what Enforce promises.
func enforce(y api.System) (api.System, []int) {
	var killed []int
	usage := func(id int) int {
		n, _ := counter.Total(y.Hierarchy.Tree, swap.Counter(y.Stock), id)
		return n
	}
	for _, n := range y.Hierarchy.Tree.Nodes {
		most := limit.Settings(estate.Memory(y), n.ID).Max
		for usage(n.ID) > most {
			stock, shrinks, _, _ := limit.Shed(y.Hierarchy.Tree, y.Stock, estate.Memory(y), n.ID)
			y, _ = estate.Absorb(y, stock, shrinks)
			if usage(n.ID) > most {
				z, k, e := paging.Kill(y, n.ID)
				if e != api.OK {
					break
				}
				y = z
				killed = append(killed, k.Processes...)
			}
		}
	}
	return y, killed
}

func TestP40_7(t *testing.T) {
	small := base()
	small.Setup.Pages = 30
	smaller := base()
	smaller.Setup.Pages, smaller.Setup.SwapSize, smaller.Stock.SwapSize = 8, 8, 8
	spared := given(func(id int, m *api.MemorySettings) { m.Max, m.SwapMax = 3, 0 })
	for _, p := range []int{1, 3, 4, 5} {
		spared, _ = paging.Adjust(spared, p, -1000)
	}
	for i, y := range []api.System{
		base(), small, smaller, spared, given(most(2, 5)), given(most(4, 9)), given(func(id int, m *api.MemorySettings) { m.Max, m.SwapMax = 3, 0 }), given(func(id int, m *api.MemorySettings) { m.Max, m.SwapMax, m.Together = 10, 4, true }),
		given(func(id int, m *api.MemorySettings) {
			if id == 4 {
				m.Max, m.SwapMax = 12, 4
			}
		}),
		given(func(id int, m *api.MemorySettings) {
			if id == 5 {
				m.Max, m.SwapMax, m.Min = 2, 0, 20
			}
		}),
	} {
		want, dead := enforce(y)
		got, killed, e := paging.Enforce(y)
		if !eq(killed, dead) {
			t.Error(i, killed, dead)
		}
		compare(t, i, y, got, want, e, api.OK)
	}
	if _, killed, _ := paging.Enforce(given(func(id int, m *api.MemorySettings) { m.Max, m.SwapMax = 3, 0 })); len(killed) < 2 {
		t.Error(killed)
	}
	if y, killed, e := paging.Enforce(wrong); !eq(y, empty) || killed != nil || e != api.ErrInvalid {
		t.Error(killed, e)
	}
}

// TestExample plays the examples of chapter 40.
func TestExample(t *testing.T) {
	for _, size := range []int{100, 0} {
		s := setup()
		s.SwapSize = size
		y, _ := estate.New(s)
		y, a, _ := estate.Create(y, 0, 1, "a")
		set := func(most int) {
			c := settings.Default()
			c.Memory.Max = most
			y, _ = estate.Set(y, 0, a, c)
		}
		set(10)
		y, p, _ := estate.Spawn(y, a, 0)
		y, _, _ = paging.Alloc(y, p, 8)
		z, g, e := paging.Alloc(y, p, 8)
		if size > 0 {
			if _, swapped := private.Pages(z.Residents, p); e != api.OK || swapped != 6 || event.Own(z.Tallies, a, api.EventMax) != 1 {
				t.Error(z, e)
			}
			continue
		}
		if _, k, _ := paging.Kill(z, a); e != api.ErrMemory || g.Refused != a || !eq(k.Processes, []int{p}) {
			t.Error(g, k, e)
		}
		set(4)
		if _, killed, _ := paging.Enforce(y); !eq(killed, []int{p}) {
			t.Error(killed)
		}
	}
}

// TestConsequences does random calls: systems stay valid, and behind a call without an error no group on the way uses more than it may.
func TestConsequences(t *testing.T) {
	r := rand.New(rand.NewSource(42))
	for range 8 {
		y := given(func(id int, m *api.MemorySettings) {
			m.Max, m.High, m.Min, m.SwapMax = 20+r.Intn(40), 15+r.Intn(60), r.Intn(2)*r.Intn(15), r.Intn(30)
		})
		for range 80 {
			process, n := []int{1, 3, 4, 5}[r.Intn(4)], r.Intn(12)
			var z api.System
			var e api.Errno
			kind := r.Intn(6)
			switch kind {
			case 0:
				z, _, e = paging.Alloc(y, process, n)
			case 1:
				z, _, e = paging.Touch(y, process, 1, n+8)
			case 2:
				z, _, e = paging.Use(y, process, n%4)
			case 3:
				z, e = paging.Free(y, process, n)
			case 4:
				if z, _, e = paging.Kill(y, 1+r.Intn(5)); r.Intn(12) > 0 {
					e = api.ErrNone
				}
			case 5:
				z, _, e = paging.Enforce(y)
			}
			if e != api.OK && e != api.ErrMemory {
				continue
			}
			if !estate.Valid(z) {
				t.Fatal(kind, y, z)
			}
			k := slices.IndexFunc(y.Hierarchy.Tasks, func(k api.Task) bool { return k.ID == process })
			if k >= 0 && kind < 2 && e == api.OK {
				home, _ := threaded.Domain(y.Hierarchy.Tree, y.Hierarchy.Tasks[k].Group)
				for _, id := range tree.Ancestors(y.Hierarchy.Tree, home) {
					if n, _ := counter.Total(z.Hierarchy.Tree, swap.Counter(z.Stock), id); n > limit.Settings(estate.Memory(z), id).Max {
						t.Fatal(kind, id, n)
					}
				}
			}
			y = z
		}
	}
}
