package pressure_test

import (
	"fmt"
	"math"
	"math/rand"
	"slices"
	"testing"

	"groupcontrol/api"
	"groupcontrol/pressure"
	"groupcontrol/tree"
)

func eq(a, b any) bool { return fmt.Sprint(a) == fmt.Sprint(b) }

// sample has /a (2), /a/b (3), /d (5).
func sample() api.Tree {
	return api.Tree{Next: 6, Nodes: []api.Node{{ID: 1}, {ID: 2, Parent: 1, Name: "a"}, {ID: 3, Parent: 2, Name: "b"}, {ID: 5, Parent: 1, Name: "d"}}}
}

var bad = func() api.Tree { t := sample(); t.Next = 1; return t }()

// gauge returns a gauge with the period 10 at the time 37.
func gauge() api.Gauge {
	g, _ := pressure.New(sample(), 10)
	g.Now = 37
	for i := range g.Values {
		g.Values[i].Some = api.Average{Total: 20 + i, Short: 100000, Mid: 50000 + i, Long: 204800, Recent: 7}
		g.Values[i].Full = api.Average{Total: 20, Short: 1000, Mid: 50000, Long: 20480, Recent: 3}
	}
	return g
}

func with(change func(*api.Gauge)) api.Gauge {
	g := gauge()
	change(&g)
	return g
}

func TestP35_1(t *testing.T) {
	for i, x := range []struct {
		t      api.Tree
		period int
		e      api.Errno
	}{{sample(), 1, api.OK}, {sample(), api.MaxTime, api.OK}, {tree.New(), 7, api.OK}, {bad, 0, api.ErrInvalid}, {sample(), 0, api.ErrRange}, {sample(), api.MaxTime + 1, api.ErrRange}, {sample(), -1, api.ErrRange}} {
		var want api.Gauge
		if x.e == api.OK {
			want.Period = x.period
			for _, n := range x.t.Nodes {
				for r := range 3 {
					want.Values = append(want.Values, api.Pressure{Group: n.ID, Resource: r})
				}
			}
		}
		if g, e := pressure.New(x.t, x.period); !eq(g, want) || e != x.e || e == api.OK && !pressure.Valid(x.t, g) {
			t.Error(i, g, e)
		}
	}
	for i, x := range []struct {
		t      api.Tree
		change func(*api.Gauge)
		want   bool
	}{
		{sample(), func(g *api.Gauge) {}, true}, {bad, func(g *api.Gauge) {}, false}, {tree.New(), func(g *api.Gauge) {}, false}, {sample(), func(g *api.Gauge) { g.Now = -1 }, false}, {sample(), func(g *api.Gauge) { g.Now = 38 }, true}, {sample(), func(g *api.Gauge) { g.Now = 36 }, false}, {sample(), func(g *api.Gauge) { g.Now = api.MaxTime + 1; g.Period = 13 }, false}, {sample(), func(g *api.Gauge) { g.Now = api.MaxTime; g.Period = 13 }, true}, {sample(), func(g *api.Gauge) { g.Period = 0 }, false}, {sample(), func(g *api.Gauge) { g.Period = -1 }, false}, {sample(), func(g *api.Gauge) { g.Period = api.MaxTime }, true}, {sample(), func(g *api.Gauge) { g.Period = api.MaxTime + 1 }, false},
		{sample(), func(g *api.Gauge) { g.Values = g.Values[:11] }, false}, {sample(), func(g *api.Gauge) { g.Values = append(g.Values, g.Values[11]) }, false}, {sample(), func(g *api.Gauge) { g.Values[4].Group = 3 }, false}, {sample(), func(g *api.Gauge) { g.Values[4].Resource = 2 }, false}, {sample(), func(g *api.Gauge) { g.Values[4], g.Values[5] = g.Values[5], g.Values[4] }, false},
		{sample(), func(g *api.Gauge) { g.Values[4].Some.Total = 37 }, true}, {sample(), func(g *api.Gauge) { g.Values[4].Some.Total = 38 }, false}, {sample(), func(g *api.Gauge) { g.Values[4].Some.Total = 20 }, true}, {sample(), func(g *api.Gauge) { g.Values[4].Some.Total = 19 }, false}, {sample(), func(g *api.Gauge) { g.Values[4].Full.Total = -1 }, false}, {sample(), func(g *api.Gauge) { g.Values[4].Full.Total = 0 }, true},
		{sample(), func(g *api.Gauge) { g.Values[4].Some.Recent = 8 }, false}, {sample(), func(g *api.Gauge) { g.Values[4].Some.Recent = 2 }, false}, {sample(), func(g *api.Gauge) { g.Values[4].Some.Recent = 3 }, true}, {sample(), func(g *api.Gauge) { g.Values[4].Full.Recent = -1 }, false}, {sample(), func(g *api.Gauge) { g.Values[4].Full.Recent = 8; g.Values[4].Some.Recent = 8 }, false},
		{sample(), func(g *api.Gauge) { g.Values[4].Some.Short = 204801 }, false}, {sample(), func(g *api.Gauge) { g.Values[4].Some.Mid = 204801 }, false}, {sample(), func(g *api.Gauge) { g.Values[4].Some.Long = 204801 }, false}, {sample(), func(g *api.Gauge) { g.Values[4].Full.Short = -1 }, false}, {sample(), func(g *api.Gauge) { g.Values[4].Full.Mid = -1 }, false}, {sample(), func(g *api.Gauge) { g.Values[4].Full.Long = -1 }, false}, {sample(), func(g *api.Gauge) { g.Values[4].Full.Short = 100001 }, false}, {sample(), func(g *api.Gauge) { g.Values[4].Full.Short = 100000 }, true}, {sample(), func(g *api.Gauge) { g.Values[4].Full.Mid = 50005 }, false}, {sample(), func(g *api.Gauge) { g.Values[4].Some.Long = 20479 }, false}, {sample(), func(g *api.Gauge) { g.Values[4].Some.Long = 20480 }, true},
	} {
		if pressure.Valid(x.t, with(x.change)) != x.want {
			t.Error(i)
		}
	}
}

func TestP35_2(t *testing.T) {
	run := api.Stall{Task: 1, Group: 3, Running: true}
	idle := api.Stall{Task: 2, Group: 3}
	processor, memory, io := api.Stall{Task: 3, Group: 3, CPU: true}, api.Stall{Task: 4, Group: 2, Memory: true}, api.Stall{Task: 5, Group: 5, IO: true}
	both := api.Stall{Task: 6, Group: 5, Running: true, IO: true}
	for i, x := range []struct {
		l            []api.Stall
		id, resource int
		some, full   bool
	}{
		{nil, 1, 0, false, false}, {[]api.Stall{run}, 3, 0, false, false}, {[]api.Stall{processor}, 3, 0, true, true}, {[]api.Stall{processor, idle}, 3, 0, true, true}, {[]api.Stall{processor, run}, 3, 0, true, false}, {[]api.Stall{processor, run}, 1, 0, true, false}, {[]api.Stall{processor}, 1, 0, true, true}, {[]api.Stall{processor}, 2, 0, true, true}, {[]api.Stall{processor}, 5, 0, false, false}, {[]api.Stall{processor}, 3, 1, false, false}, {[]api.Stall{memory, run}, 2, 1, true, false}, {[]api.Stall{memory, run}, 3, 1, false, false}, {[]api.Stall{io, run}, 5, 2, true, true}, {[]api.Stall{io, run}, 1, 2, true, false}, {[]api.Stall{io, memory}, 1, 1, true, true}, {[]api.Stall{both}, 5, 2, true, false},
		{[]api.Stall{{Group: 4, CPU: true}, {Group: 9, CPU: true}, {Group: 0, CPU: true}}, 1, 0, false, false}, {[]api.Stall{processor, {Group: 9, Running: true}}, 1, 0, true, true}, {[]api.Stall{processor}, 4, 0, false, false}, {[]api.Stall{processor}, 0, 0, false, false}, {[]api.Stall{processor}, 3, 3, false, false}, {[]api.Stall{processor}, 3, -1, false, false}, {slices.Repeat([]api.Stall{processor}, 500), 3, 0, true, true},
	} {
		if some, full := pressure.State(sample(), x.l, x.id, x.resource); some != x.some || full != x.full {
			t.Error(i, some, full)
		}
		if some, full := pressure.State(bad, x.l, x.id, x.resource); some || full {
			t.Error(i, "a tree that Check refuses")
		}
	}
}

// step follows the promise word by word.
func step(g api.Gauge, l []api.Stall) api.Gauge {
	g.Now++
	g.Values = slices.Clone(g.Values)
	for i := range g.Values {
		p := &g.Values[i]
		some, full := pressure.State(sample(), l, p.Group, p.Resource)
		for k, a := range []*api.Average{&p.Some, &p.Full} {
			if k == 0 && some || k == 1 && full {
				a.Total++
				a.Recent++
			}
			if g.Now%g.Period == 0 {
				x := a.Recent * 204800 / g.Period
				a.Short, a.Mid, a.Long, a.Recent = (a.Short*1677+x*371)/2048, (a.Mid*1981+x*67)/2048, (a.Long*2034+x*14)/2048, 0
			}
		}
	}
	return g
}

func TestP35_3(t *testing.T) {
	stalls := []api.Stall{{Task: 1, Group: 3, Running: true}, {Task: 2, Group: 3, Memory: true}, {Task: 3, Group: 5, IO: true}, {Task: 4, Group: 9, CPU: true}}
	late := with(func(g *api.Gauge) { g.Now, g.Period = api.MaxTime, 13 })
	wrong := with(func(g *api.Gauge) { g.Now = 36 })
	crowd := slices.Repeat(stalls, 32)
	for i, x := range []struct {
		t api.Tree
		g api.Gauge
		l []api.Stall
		e api.Errno
	}{
		{sample(), gauge(), stalls, api.OK}, {sample(), with(func(g *api.Gauge) { g.Now = 39 }), stalls, api.OK}, {sample(), with(func(g *api.Gauge) { g.Now = 39 }), nil, api.OK}, {sample(), with(func(g *api.Gauge) { g.Now, g.Period = api.MaxTime-1, 13 }), stalls, api.OK}, {sample(), gauge(), crowd, api.OK},
		{bad, gauge(), append(crowd, crowd...), api.ErrInvalid}, {sample(), wrong, append(crowd, crowd...), api.ErrInvalid}, {sample(), late, append(crowd, stalls[0]), api.ErrLimit}, {sample(), late, stalls, api.ErrRange},
	} {
		before := fmt.Sprint(x.g)
		g, e := pressure.Step(x.t, x.g, x.l)
		var want api.Gauge
		if x.e == api.OK {
			want = step(x.g, x.l)
		}
		if !eq(g, want) || e != x.e || e == api.OK && !pressure.Valid(x.t, g) {
			t.Error(i, g, e)
		}
		for k := range g.Values {
			g.Values[k].Group = 99
		}
		if fmt.Sprint(x.g) != before {
			t.Error(i, "memory is shared")
		}
	}
	g, _ := pressure.New(sample(), 2)
	g, _ = pressure.Step(sample(), g, stalls)
	g, _ = pressure.Step(sample(), g, nil)
	if p, _ := pressure.Get(g, 5, 2); p.Some != (api.Average{Total: 1, Short: 18550, Mid: 3350, Long: 700}) || p.Full != p.Some {
		t.Error(p)
	}
}

func TestP35_4(t *testing.T) {
	odd := api.Gauge{Values: []api.Pressure{{Group: 9, Resource: 5, Some: api.Average{Total: 1}}, {Group: 3, Resource: 1, Some: api.Average{Total: 2}}, {Group: 9, Resource: 5, Some: api.Average{Total: 3}}}}
	for i, x := range []struct {
		id, resource int
		want         api.Pressure
		ok           bool
	}{{9, 5, odd.Values[0], true}, {3, 1, odd.Values[1], true}, {9, 1, api.Pressure{}, false}, {3, 5, api.Pressure{}, false}} {
		if p, ok := pressure.Get(odd, x.id, x.resource); p != x.want || ok != x.ok {
			t.Error(i, p, ok)
		}
	}
	other := api.Tree{Next: 9, Nodes: []api.Node{{ID: 1}, {ID: 3, Parent: 1, Name: "b"}, {ID: 7, Parent: 3, Name: "n"}}}
	g := gauge()
	want := api.Gauge{Now: 37, Period: 10, Values: slices.Concat(g.Values[:3], g.Values[6:9], []api.Pressure{{Group: 7}, {Group: 7, Resource: 1}, {Group: 7, Resource: 2}})}
	got, e := pressure.Adjust(other, g)
	if !eq(got, want) || e != api.OK || !pressure.Valid(other, got) {
		t.Error(got, e)
	}
	got.Values[0].Group = 99
	if !eq(g, gauge()) {
		t.Error("memory is shared")
	}
	odd.Now, odd.Period = 5, 10
	if got, e := pressure.Adjust(other, odd); e != api.OK || got.Values[4].Some.Total != 2 || got.Values[3] != (api.Pressure{Group: 3}) {
		t.Error(got, e)
	}
	for i, x := range []struct {
		t api.Tree
		g api.Gauge
	}{{bad, g}, {other, api.Gauge{}}, {other, with(func(g *api.Gauge) { g.Now = 36 })}, {other, with(func(g *api.Gauge) { g.Values[6].Full.Recent = 8 })}} {
		if got, e := pressure.Adjust(x.t, x.g); !eq(got, api.Gauge{}) || e != api.ErrInvalid {
			t.Error(i, got, e)
		}
	}
	if _, e := pressure.Adjust(other, with(func(g *api.Gauge) { g.Values[10].Full.Recent = 8 })); e != api.OK {
		t.Error("a value of a group that is gone", e)
	}
}

func TestP35_5(t *testing.T) {
	for i, x := range []struct {
		p    api.Pressure
		want string
	}{
		{api.Pressure{}, "some avg10=0.00 avg60=0.00 avg300=0.00 total=0\nfull avg10=0.00 avg60=0.00 avg300=0.00 total=0\n"},
		{api.Pressure{Some: api.Average{Total: 12, Short: 18550, Mid: 20, Long: 21, Recent: 5}, Full: api.Average{Total: 3, Short: 204800, Mid: 2048, Long: 2047}}, "some avg10=9.05 avg60=0.00 avg300=0.01 total=12\nfull avg10=100.00 avg60=1.00 avg300=0.99 total=3\n"},
		{api.Pressure{Some: api.Average{Total: -12, Short: -18550, Mid: -1, Long: 409600}, Full: api.Average{Total: math.MinInt, Short: math.MinInt, Mid: 4096 + 204}}, "some avg10=0.00 avg60=0.00 avg300=200.00 total=0\nfull avg10=0.00 avg60=2.09 avg300=0.00 total=0\n"},
		{api.Pressure{Some: api.Average{Short: 205, Mid: 2048*7 + 1536, Long: 2048*12 + 410}}, "some avg10=0.10 avg60=7.75 avg300=12.20 total=0\nfull avg10=0.00 avg60=0.00 avg300=0.00 total=0\n"},
	} {
		if s := pressure.Text(x.p); s != x.want {
			t.Errorf("%d %q", i, s)
		}
	}
}

func TestP35_6(t *testing.T) {
	base := api.Trigger{Group: 3, Resource: 1, Threshold: 5, Window: 10, Start: 30, From: 20}
	change := func(f func(*api.Trigger)) []api.Trigger {
		x := base
		f(&x)
		return []api.Trigger{x}
	}
	for i, x := range []struct {
		l    []api.Trigger
		want bool
	}{
		{nil, true}, {slices.Repeat([]api.Trigger{base}, 16), true}, {slices.Repeat([]api.Trigger{base}, 17), false}, {change(func(x *api.Trigger) { x.Group = -5 }), true}, {change(func(x *api.Trigger) { x.Resource = 3 }), false}, {change(func(x *api.Trigger) { x.Resource = -1 }), false}, {change(func(x *api.Trigger) { x.Resource = 2 }), true}, {change(func(x *api.Trigger) { x.Resource = 0 }), true}, {change(func(x *api.Trigger) { x.Window = 4 }), false}, {change(func(x *api.Trigger) { x.Window = 5 }), true}, {change(func(x *api.Trigger) { x.Window, x.Threshold = 0, 0 }), false}, {change(func(x *api.Trigger) { x.Window = api.MaxTime }), true}, {change(func(x *api.Trigger) { x.Window = api.MaxTime + 1 }), false}, {change(func(x *api.Trigger) { x.Threshold = 0 }), false}, {change(func(x *api.Trigger) { x.Threshold, x.Window = 1, 1 }), true}, {change(func(x *api.Trigger) { x.Start = -1 }), false}, {change(func(x *api.Trigger) { x.Start = api.MaxTime + 1 }), false}, {change(func(x *api.Trigger) { x.Start = api.MaxTime }), true}, {change(func(x *api.Trigger) { x.From = -1 }), false}, {change(func(x *api.Trigger) { x.From = api.MaxTime + 1 }), false}, {change(func(x *api.Trigger) { x.From = api.MaxTime }), true},
	} {
		if pressure.ValidTriggers(x.l) != x.want {
			t.Error(i)
		}
		if l, fired, e := pressure.Watch(gauge(), x.l); !x.want && (l != nil || fired != nil || e != api.ErrInvalid) {
			t.Error(i, l, fired, e)
		}
	}
	// The value of the group 3 and memory: some 27, full 20; the time is 37.
	for i, x := range []struct {
		trigger, want []api.Trigger
		fired         []int
	}{
		{[]api.Trigger{base}, change(func(x *api.Trigger) { x.Fired = true }), []int{0}}, {change(func(x *api.Trigger) { x.From = 22 }), change(func(x *api.Trigger) { x.From, x.Fired = 22, true }), []int{0}}, {change(func(x *api.Trigger) { x.From = 23 }), change(func(x *api.Trigger) { x.From = 23 }), nil}, {change(func(x *api.Trigger) { x.Fired = true }), change(func(x *api.Trigger) { x.Fired = true }), nil}, {change(func(x *api.Trigger) { x.Full = true }), change(func(x *api.Trigger) { x.Full = true }), nil}, {change(func(x *api.Trigger) { x.Full, x.From = true, 15 }), change(func(x *api.Trigger) { x.Full, x.From, x.Fired = true, 15, true }), []int{0}},
		{change(func(x *api.Trigger) { x.Start, x.Fired = 27, true }), change(func(x *api.Trigger) { x.Start, x.From = 37, 27 }), nil}, {change(func(x *api.Trigger) { x.Start = 28 }), change(func(x *api.Trigger) { x.Start, x.Fired = 28, true }), []int{0}}, {change(func(x *api.Trigger) { x.Full, x.Start, x.From = true, 1, 1 }), change(func(x *api.Trigger) { x.Full, x.Start, x.From = true, 37, 20 }), nil}, {change(func(x *api.Trigger) { x.Group, x.Start = 4, 1 }), change(func(x *api.Trigger) { x.Group, x.Start = 4, 1 }), nil},
	} {
		before := fmt.Sprint(x.trigger)
		l, fired, e := pressure.Watch(gauge(), x.trigger)
		if !eq(l, x.want) || !eq(fired, x.fired) || e != api.OK || fmt.Sprint(x.trigger) != before {
			t.Error(i, l, fired, e)
		}
	}
	if _, fired, _ := pressure.Watch(gauge(), []api.Trigger{base, change(func(x *api.Trigger) { x.Group = 4 })[0], base}); !eq(fired, []int{0, 2}) {
		t.Error(fired)
	}
}

// TestConsequences checks the laws of chapter 35.
func TestConsequences(t *testing.T) {
	r := rand.New(rand.NewSource(37))
	for range 20 {
		g, _ := pressure.New(sample(), 1+r.Intn(7))
		trigger := []api.Trigger{{Group: 2, Resource: r.Intn(3), Full: r.Intn(2) == 0, Window: 10, Threshold: 3}}
		lost, count := 0, 0
		for range 150 {
			var l []api.Stall
			for k := range r.Intn(5) {
				l = append(l, api.Stall{Task: k, Group: []int{1, 2, 3, 5}[r.Intn(4)], Running: r.Intn(3) == 0, CPU: r.Intn(3) == 0, Memory: r.Intn(3) == 0, IO: r.Intn(3) == 0})
			}
			next, e := pressure.Step(sample(), g, l)
			if e != api.OK || !eq(next, step(g, l)) || !pressure.Valid(sample(), next) {
				t.Fatal(next, e)
			}
			g = next
			some, full := pressure.State(sample(), l, 2, trigger[0].Resource)
			if !trigger[0].Full && some || trigger[0].Full && full {
				lost++
			}
			started := trigger[0].Start
			var fired []int
			trigger, fired, _ = pressure.Watch(g, trigger)
			if count += len(fired); trigger[0].Start != started {
				lost, count = 0, 0
			} else if count != 0 && lost < 3 || count != 1 && lost >= 3 {
				t.Fatal(trigger, lost, count)
			}
			for _, n := range sample().Nodes {
				for res := range 3 {
					a, _ := pressure.Get(g, n.ID, res)
					b, _ := pressure.Get(g, n.Parent, res)
					if n.Parent > 0 && b.Some.Total < a.Some.Total || a.Some.Total > g.Now {
						t.Fatal(a, b)
					}
				}
			}
		}
	}
}
