package device_test

import (
	"fmt"
	"math/rand"
	"slices"
	"testing"

	"groupcontrol/api"
	"groupcontrol/bucket"
	"groupcontrol/cost"
	"groupcontrol/device"
	"groupcontrol/iofair"
	"groupcontrol/latency"
	"groupcontrol/tree"
)

func eq(a, b any) bool { return fmt.Sprint(a) == fmt.Sprint(b) }

// sample has /a (2), /a/b (3), /c (5).
func sample() api.Tree {
	return api.Tree{Next: 6, Nodes: []api.Node{{ID: 1}, {ID: 2, Parent: 1, Name: "a"}, {ID: 3, Parent: 2, Name: "b"}, {ID: 5, Parent: 1, Name: "c"}}}
}

var bad = func() api.Tree { t := sample(); t.Next = 1; return t }()

const max = api.Max

var config = api.DeviceConfig{Model: api.Model{ReadPage: 10, WritePage: 10}, Speed: 10}

// free returns settings without limits.
func free() api.DeviceSettings {
	return api.DeviceSettings{Weight: 100, ReadPages: max, WritePages: max, ReadOps: max, WriteOps: max}
}

func settings(change func(*api.DeviceSettings)) api.DeviceSettings {
	s := free()
	change(&s)
	return s
}

func read(task, group, at, pages int) api.Request {
	return api.Request{Task: task, Group: group, At: at, Pages: pages}
}

func write(task, group, at, pages int) api.Request {
	r := read(task, group, at, pages)
	r.Write = true
	return r
}

func full(level int) api.Bucket {
	return api.Bucket{Rate: level, Per: 100, Burst: level, Level: 100 * level, Now: 4}
}

// base returns a device with something in each of its lists, at the time 4.
func base() api.Device {
	open := api.Bucket{Rate: max, Per: 100, Now: 4}
	return api.Device{
		Config: config, Now: 4, Free: 45, Head: 7,
		Weights: []api.Weight{{Group: 2, Weight: 300}},
		Buckets: []api.Caps{{Group: 2, ReadPages: full(9), WritePages: open, ReadOps: full(2), WriteOps: open}, {Group: 3, ReadPages: open, WritePages: full(5), ReadOps: open, WriteOps: full(1)}},
		Depths:  []api.Depth{{Group: 2, Target: 9, Depth: 3}, {Group: 5, Depth: 2}},
		V:       []api.Account{{Group: 2, V: 40}, {Group: 3, V: 5}},
		Queue:   []api.Request{read(1, 2, 0, 3), read(2, 5, 9, 1), write(1, 2, 5, 1)},
		Flights: []api.Flight{{Request: read(3, 3, 0, 1), Done: 5}, {Request: read(4, 5, 0, 1), Done: 6}, {Request: read(1, 2, 0, 1), Done: 6}},
	}
}

func with(change func(*api.Device)) api.Device {
	d := base()
	change(&d)
	return d
}

func many(n int) []api.Request { return slices.Repeat([]api.Request{read(1, 5, 0, 1)}, n) }

func TestP34_1(t *testing.T) {
	for i, x := range []struct {
		c api.DeviceConfig
		e api.Errno
	}{
		{config, api.OK}, {api.DeviceConfig{Speed: 1}, api.OK}, {api.DeviceConfig{Speed: 1000000, Margin: api.MaxRate}, api.OK}, {api.DeviceConfig{}, api.ErrRange}, {api.DeviceConfig{Speed: 1000001}, api.ErrRange}, {api.DeviceConfig{Speed: 1, Margin: -1}, api.ErrRange}, {api.DeviceConfig{Speed: 1, Margin: api.MaxRate + 1}, api.ErrRange}, {api.DeviceConfig{Speed: 1, Model: api.Model{Seek: -1}}, api.ErrRange},
	} {
		var want api.Device
		if x.e == api.OK {
			want.Config = x.c
		}
		if d, e := device.New(x.c); e != x.e || !eq(d, want) {
			t.Error(i, d, e)
		}
	}
	bucketWith := func(change func(*api.Bucket)) func(*api.Device) {
		return func(d *api.Device) { change(&d.Buckets[1].WritePages) }
	}
	for i, x := range []struct {
		change func(*api.Device)
		want   bool
	}{
		{func(d *api.Device) {}, true}, {func(d *api.Device) { *d = api.Device{} }, false}, {func(d *api.Device) { *d = api.Device{Config: config} }, true}, {func(d *api.Device) { d.Config.Speed = 0 }, false}, {func(d *api.Device) { d.Config.Margin = -1 }, false}, {func(d *api.Device) { d.Config.Model.Seek = 1000001 }, false},
		{func(d *api.Device) { *d = api.Device{Config: config, Now: api.MaxTime} }, true}, {func(d *api.Device) { *d = api.Device{Config: config, Now: api.MaxTime + 1} }, false}, {func(d *api.Device) { *d = api.Device{Config: config, Now: -1} }, false}, {func(d *api.Device) { d.Now = 5 }, false}, {func(d *api.Device) { d.Free = -1 }, false}, {func(d *api.Device) { d.Free = 1 << 50 }, true}, {func(d *api.Device) { d.Free = 1<<50 + 1 }, false}, {func(d *api.Device) { d.Head = -1 }, false}, {func(d *api.Device) { d.Head = api.MaxPages }, true}, {func(d *api.Device) { d.Head = api.MaxPages + 1 }, false},
		{func(d *api.Device) { d.Weights[0].Weight = 0 }, false}, {func(d *api.Device) { d.Weights[0].Group = 4 }, false}, {func(d *api.Device) { d.Depths[0].Depth = 0 }, false}, {func(d *api.Device) { d.V[0].V = -1 }, false}, {func(d *api.Device) { d.V[1].Group = 2 }, false},
		{func(d *api.Device) { d.Buckets[1].Group = 4 }, false}, {func(d *api.Device) { d.Buckets[1].Group = 2 }, false}, {func(d *api.Device) { d.Buckets[0].Group = 5 }, false}, {bucketWith(func(b *api.Bucket) { b.Level = -1 }), false}, {bucketWith(func(b *api.Bucket) { b.Level = 0 }), true}, {bucketWith(func(b *api.Bucket) { b.Now = 3 }), false}, {bucketWith(func(b *api.Bucket) { b.Now = 5 }), false}, {bucketWith(func(b *api.Bucket) { b.Per, b.Level = 99, 0 }), false}, {func(d *api.Device) { d.Buckets[0].ReadPages.Now = 3 }, false}, {func(d *api.Device) { d.Buckets[0].ReadOps.Now = 3 }, false}, {func(d *api.Device) { d.Buckets[0].WriteOps.Now = 3 }, false},
		{func(d *api.Device) { d.Queue = many(253) }, true}, {func(d *api.Device) { d.Queue = many(254) }, false}, {func(d *api.Device) { d.Queue[1].Pages = 0 }, false}, {func(d *api.Device) { d.Queue[1].Group = 4 }, false}, {func(d *api.Device) { d.Flights[1].Request.Pages = 0 }, false}, {func(d *api.Device) { d.Flights[1].Request.Group = 4 }, false}, {func(d *api.Device) { d.Flights[1].Done = 4 }, false}, {func(d *api.Device) { d.Flights[0].Done = 0 }, true}, {func(d *api.Device) { d.Flights[0].Done = -1 }, false}, {func(d *api.Device) { d.Flights[2].Done = 1 << 50 }, true}, {func(d *api.Device) { d.Flights[2].Done = 1<<50 + 1 }, false}, {func(d *api.Device) { d.Queue[1].Task = api.MaxID }, true},
	} {
		if device.Valid(sample(), with(x.change)) != x.want {
			t.Error(i)
		}
	}
	if device.Valid(bad, base()) || device.Valid(bad, api.Device{Config: config}) {
		t.Error("a tree that Check refuses")
	}
}

// compare compares a device with what is expected, and sees that it shares no memory with the argument.
func compare(t *testing.T, i int, d, got, want api.Device, e, f api.Errno) {
	t.Helper()
	before := fmt.Sprint(d)
	if e != f || !eq(got, want) || e == api.OK && !device.Valid(sample(), got) {
		t.Error(i, got, want, e)
	}
	scribble(got)
	if fmt.Sprint(d) != before {
		t.Error(i, "memory is shared")
	}
}

func scribble(d api.Device) {
	for k := range d.Weights {
		d.Weights[k].Group = 99
	}
	for k := range d.Buckets {
		d.Buckets[k].Group = 99
	}
	for k := range d.Depths {
		d.Depths[k].Group = 99
	}
	for k := range d.V {
		d.V[k].Group = 99
	}
	for k := range d.Queue {
		d.Queue[k].Group = 99
	}
	for k := range d.Flights {
		d.Flights[k].Done = 99
	}
}

var wrong = with(func(d *api.Device) { d.Now = 5 })

func TestP34_2(t *testing.T) {
	open := api.Bucket{Rate: max, Per: 100, Now: 4}
	fresh := func(rate, burst int) api.Bucket {
		return api.Bucket{Rate: rate, Per: 100, Burst: burst, Level: 100 * burst, Now: 4}
	}
	for i, x := range []struct {
		t    api.Tree
		d    api.Device
		id   int
		s    api.DeviceSettings
		want api.Device
		e    api.Errno
	}{
		{sample(), base(), 2, free(), with(func(d *api.Device) {
			d.Weights, d.Buckets, d.Depths[0].Target = nil, d.Buckets[1:], 0
		}), api.OK},
		{sample(), base(), 5, settings(func(s *api.DeviceSettings) { s.Weight, s.Target, s.Device = 7, 8, -5 }), with(func(d *api.Device) {
			d.Weights, d.Depths[1].Target = append(d.Weights, api.Weight{Group: 5, Weight: 7}), 8
		}), api.OK},
		{sample(), base(), 1, settings(func(s *api.DeviceSettings) { s.Weight, s.Target = 10000, 1 }), with(func(d *api.Device) {
			d.Weights, d.Depths = append([]api.Weight{{Group: 1, Weight: 10000}}, d.Weights...), append([]api.Depth{{Group: 1, Target: 1, Depth: 256}}, d.Depths...)
		}), api.OK},
		{sample(), with(func(d *api.Device) { d.Depths[1].Depth, d.Depths[1].Target = 256, 5 }), 5, free(), with(func(d *api.Device) { d.Depths = d.Depths[:1] }), api.OK},
		{sample(), base(), 5, settings(func(s *api.DeviceSettings) {
			s.ReadPages, s.WritePages, s.ReadOps, s.WriteOps = 1, 5000, 3, api.MaxRate
		}), with(func(d *api.Device) {
			d.Buckets = append(d.Buckets, api.Caps{Group: 5, ReadPages: fresh(1, 4096), WritePages: fresh(5000, 5000), ReadOps: fresh(3, 3), WriteOps: fresh(api.MaxRate, api.MaxRate)})
		}), api.OK},
		{sample(), base(), 1, settings(func(s *api.DeviceSettings) { s.WriteOps = 1 }), with(func(d *api.Device) {
			d.Buckets = append([]api.Caps{{Group: 1, ReadPages: open, WritePages: open, ReadOps: open, WriteOps: fresh(1, 1)}}, d.Buckets...)
		}), api.OK},
		{sample(), base(), 5, settings(func(s *api.DeviceSettings) { s.ReadPages = 5000 }), with(func(d *api.Device) {
			d.Buckets = append(d.Buckets, api.Caps{Group: 5, ReadPages: fresh(5000, 5000), WritePages: open, ReadOps: open, WriteOps: open})
		}), api.OK},
		{sample(), base(), 5, settings(func(s *api.DeviceSettings) { s.WritePages = 4095 }), with(func(d *api.Device) {
			d.Buckets = append(d.Buckets, api.Caps{Group: 5, ReadPages: open, WritePages: fresh(4095, 4096), ReadOps: open, WriteOps: open})
		}), api.OK},
		// what the buckets have is kept; one that was open is empty
		{sample(), with(func(d *api.Device) { d.Buckets[0].ReadPages.Level, d.Buckets[0].ReadOps.Level = 555, 50 }), 2, settings(func(s *api.DeviceSettings) { s.Weight, s.ReadPages, s.WritePages, s.Target = 300, 20, 6, 9 }), with(func(d *api.Device) {
			d.Buckets[0].ReadPages = api.Bucket{Rate: 20, Per: 100, Burst: 4096, Level: 500, Now: 4}
			d.Buckets[0].WritePages = api.Bucket{Rate: 6, Per: 100, Burst: 4096, Now: 4}
			d.Buckets[0].ReadOps = open
		}), api.OK},
		{sample(), base(), 2, settings(func(s *api.DeviceSettings) { s.Weight, s.Target, s.ReadOps = 300, 9, 1 }), with(func(d *api.Device) {
			d.Buckets[0].ReadPages = open
			d.Buckets[0].ReadOps = api.Bucket{Rate: 1, Per: 100, Burst: 1, Level: 100, Now: 4}
		}), api.OK},
		{bad, base(), 9, api.DeviceSettings{}, api.Device{}, api.ErrInvalid}, {sample(), wrong, 9, api.DeviceSettings{}, api.Device{}, api.ErrInvalid}, {sample(), base(), 4, api.DeviceSettings{}, api.Device{}, api.ErrUnknown}, {sample(), base(), 2, api.DeviceSettings{}, api.Device{}, api.ErrRange}, {sample(), base(), 2, settings(func(s *api.DeviceSettings) { s.Weight = 10001 }), api.Device{}, api.ErrRange}, {sample(), base(), 2, settings(func(s *api.DeviceSettings) { s.ReadOps = 0 }), api.Device{}, api.ErrRange}, {sample(), base(), 2, settings(func(s *api.DeviceSettings) { s.Target = -1 }), api.Device{}, api.ErrRange},
	} {
		got, e := device.Set(x.t, x.d, x.id, x.s)
		compare(t, i, x.d, got, x.want, e, x.e)
	}
}

func TestP34_3(t *testing.T) {
	queued := func(r api.Request) api.Device {
		r.Time = 4
		return with(func(d *api.Device) { d.Queue = append(d.Queue, r) })
	}
	crowded := with(func(d *api.Device) { d.Queue = many(253) })
	for i, x := range []struct {
		t    api.Tree
		d    api.Device
		r    api.Request
		want api.Device
		e    api.Errno
	}{
		{sample(), base(), read(9, 3, 5, 2), queued(read(9, 3, 5, 2)), api.OK}, {sample(), base(), api.Request{Group: 1, Pages: 1, Time: -7}, queued(api.Request{Group: 1, Pages: 1}), api.OK}, {sample(), base(), write(api.MaxID, 5, 0, 4096), queued(write(api.MaxID, 5, 0, 4096)), api.OK}, {sample(), with(func(d *api.Device) { d.Queue = many(252) }), read(1, 5, 0, 1), with(func(d *api.Device) { d.Queue = append(many(252), api.Request{Task: 1, Group: 5, Pages: 1, Time: 4}) }), api.OK},
		{bad, base(), read(9, 9, 5, 2), api.Device{}, api.ErrInvalid}, {sample(), wrong, read(9, 9, 5, 2), api.Device{}, api.ErrInvalid}, {sample(), base(), read(9, 9, 5, 0), api.Device{}, api.ErrInvalid}, {sample(), crowded, read(9, 4, 5, 2), api.Device{}, api.ErrUnknown}, {sample(), crowded, read(9, 5, 5, 2), api.Device{}, api.ErrLimit},
	} {
		got, e := device.Submit(x.t, x.d, x.r)
		compare(t, i, x.d, got, x.want, e, x.e)
	}
	for i, x := range []struct {
		t    api.Tree
		d    api.Device
		r    api.Request
		want bool
		e    api.Errno
	}{
		{sample(), base(), read(1, 2, 0, 9), true, api.OK}, {sample(), base(), read(1, 2, 0, 10), false, api.OK}, {sample(), base(), write(1, 2, 0, 10), true, api.OK}, {sample(), base(), read(1, 3, 0, 9), true, api.OK}, {sample(), base(), read(1, 3, 0, 10), false, api.OK}, {sample(), base(), write(1, 3, 0, 5), true, api.OK}, {sample(), base(), write(1, 3, 0, 6), false, api.OK}, {sample(), base(), read(1, 5, 0, 4096), true, api.OK}, {sample(), base(), api.Request{Group: 5, Pages: 1, Time: -1}, true, api.OK},
		{sample(), with(func(d *api.Device) { d.Buckets[0].ReadOps.Level = 99 }), read(1, 3, 0, 1), false, api.OK}, {sample(), with(func(d *api.Device) { d.Buckets[0].ReadOps.Level = 100 }), read(1, 3, 0, 1), true, api.OK}, {sample(), with(func(d *api.Device) { d.Buckets[0].ReadPages.Level = 299 }), read(1, 2, 0, 3), false, api.OK}, {sample(), with(func(d *api.Device) { d.Buckets[1].WriteOps.Level = 0 }), write(1, 3, 0, 1), false, api.OK}, {sample(), with(func(d *api.Device) { d.Buckets[1].WriteOps.Level = 0 }), write(1, 2, 0, 1), true, api.OK},
		{sample(), with(func(d *api.Device) { d.Depths[1].Depth = 1 }), read(1, 5, 0, 1), false, api.OK}, {sample(), with(func(d *api.Device) { d.Depths[0].Depth = 2 }), read(1, 3, 0, 1), false, api.OK}, {sample(), with(func(d *api.Device) { d.Depths[0].Depth = 2; d.Flights = d.Flights[:2] }), read(1, 3, 0, 1), true, api.OK},
		{bad, base(), read(9, 9, 5, 2), false, api.ErrInvalid}, {sample(), wrong, read(9, 9, 5, 2), false, api.ErrInvalid}, {sample(), base(), read(9, 9, 5, 0), false, api.ErrInvalid}, {sample(), base(), read(9, 4, 5, 2), false, api.ErrUnknown}, {sample(), crowded, read(9, 5, 5, 2), true, api.OK},
	} {
		if ok, e := device.Room(x.t, x.d, x.r); ok != x.want || e != x.e {
			t.Error(i, ok, e)
		}
	}
}

func TestP34_4(t *testing.T) {
	for i, x := range []struct {
		t    api.Tree
		d    api.Device
		want []int
		e    api.Errno
	}{
		{sample(), base(), []int{2, 5}, api.OK}, {sample(), with(func(d *api.Device) { d.Depths[1].Depth = 1 }), []int{2}, api.OK}, {sample(), with(func(d *api.Device) { d.Buckets[0].ReadPages.Level = 299 }), []int{5}, api.OK}, {sample(), with(func(d *api.Device) { d.Queue = nil }), nil, api.OK}, {sample(), with(func(d *api.Device) {
			d.Queue = []api.Request{read(1, 5, 0, 1), read(1, 3, 0, 1), read(1, 1, 0, 1)}
		}), []int{1, 3, 5}, api.OK}, {bad, base(), nil, api.ErrInvalid}, {sample(), wrong, nil, api.ErrInvalid},
	} {
		if l, e := device.Ready(x.t, x.d); !eq(l, x.want) || e != x.e {
			t.Error(i, l, e)
		}
	}
}

// tick follows the promise word by word.
func tick(tr api.Tree, d api.Device) (api.Device, []api.Flight) {
	d.Now++
	d.Buckets = slices.Clone(d.Buckets)
	for i := range d.Buckets {
		c := &d.Buckets[i]
		c.ReadPages, _ = bucket.Advance(c.ReadPages, d.Now)
		c.WritePages, _ = bucket.Advance(c.WritePages, d.Now)
		c.ReadOps, _ = bucket.Advance(c.ReadOps, d.Now)
		c.WriteOps, _ = bucket.Advance(c.WriteOps, d.Now)
	}
	var ended, flying []api.Flight
	for _, f := range d.Flights {
		if f.Done <= d.Now {
			ended = append(ended, f)
		} else {
			flying = append(flying, f)
		}
	}
	d.Flights = flying
	for d.Free < d.Now*d.Config.Speed {
		ready, e := device.Ready(tr, d)
		if e != api.OK {
			panic(e)
		}
		g, ok := iofair.Next(tr, d.V, ready, d.Now*d.Config.Speed)
		if !ok {
			break
		}
		i := slices.IndexFunc(d.Queue, func(r api.Request) bool { return r.Group == g })
		r := d.Queue[i]
		price, _ := cost.Cost(d.Config.Model, r, d.Head)
		price = maximum(price, 1)
		var active []int
		for _, x := range d.Queue {
			active = append(active, x.Group)
		}
		for _, f := range d.Flights {
			active = append(active, f.Request.Group)
		}
		share, _ := iofair.Share(tr, d.Weights, active, g)
		v, e := iofair.Issue(tr, d.V, g, share, price, d.Now*d.Config.Speed, d.Config.Margin)
		if e != api.OK {
			break
		}
		d.V = v
		for _, id := range tree.Ancestors(tr, g) {
			for k := range d.Buckets {
				if c := &d.Buckets[k]; c.Group == id && r.Write {
					c.WritePages, _ = bucket.Take(c.WritePages, d.Now, r.Pages)
					c.WriteOps, _ = bucket.Take(c.WriteOps, d.Now, 1)
				} else if c.Group == id {
					c.ReadPages, _ = bucket.Take(c.ReadPages, d.Now, r.Pages)
					c.ReadOps, _ = bucket.Take(c.ReadOps, d.Now, 1)
				}
			}
		}
		d.Queue = slices.Delete(slices.Clone(d.Queue), i, i+1)
		d.Head = r.At + r.Pages
		d.Free = maximum(d.Free, (d.Now-1)*d.Config.Speed) + price
		done := d.Free / d.Config.Speed
		if d.Free%d.Config.Speed > 0 {
			done++
		}
		f := api.Flight{Request: r, Done: maximum(done, d.Now+1)}
		k := 0
		for k < len(d.Flights) && d.Flights[k].Done <= f.Done {
			k++
		}
		d.Flights = slices.Insert(slices.Clone(d.Flights), k, f)
	}
	return d, ended
}

func maximum(a, b int) int {
	if a > b {
		return a
	}
	return b
}

func TestP34_5(t *testing.T) {
	got, ended, e := device.Tick(sample(), base())
	want, landed := tick(sample(), base())
	if !eq(ended, landed) || len(ended) != 1 {
		t.Error(ended)
	}
	compare(t, 0, base(), got, want, e, api.OK)
	between := with(func(d *api.Device) { d.Flights[2].Done = 7 })
	got, _, e = device.Tick(sample(), between)
	want, _ = tick(sample(), between)
	if len(got.Flights) < 3 || got.Flights[1].Done != 6 {
		t.Error(got.Flights)
	}
	compare(t, 1, between, got, want, e, api.OK)
	d := base()
	got, ended, _ = device.Tick(sample(), d)
	scribble(got)
	ended[0].Done = 77
	if !eq(d, base()) {
		t.Error("memory is shared")
	}
	for i, x := range []struct {
		t api.Tree
		d api.Device
		e api.Errno
	}{{bad, base(), api.ErrInvalid}, {sample(), wrong, api.ErrInvalid}, {sample(), api.Device{Config: config, Now: api.MaxTime}, api.ErrRange}, {bad, api.Device{Config: config, Now: api.MaxTime}, api.ErrInvalid}, {sample(), api.Device{Config: config, Now: api.MaxTime - 1}, api.OK}} {
		d, l, e := device.Tick(x.t, x.d)
		if e != x.e || l != nil || e != api.OK && !eq(d, api.Device{}) {
			t.Error(i, d, l, e)
		}
	}
}

// TestP34_5Scenes plays the examples of the chapter, and some more.
func TestP34_5Scenes(t *testing.T) {
	start := func(c api.DeviceConfig, requests ...api.Request) api.Device {
		d, _ := device.New(c)
		for _, r := range requests {
			var e api.Errno
			if d, e = device.Submit(sample(), d, r); e != api.OK {
				t.Fatal(e)
			}
		}
		return d
	}
	// begins returns the ticks in which the requests begin, by their tasks, and ends those in which they end.
	run := func(d api.Device, n int) (begins, ends map[int]int, last api.Device) {
		begins, ends = map[int]int{}, map[int]int{}
		for range n {
			next, landed, e := device.Tick(sample(), d)
			if e != api.OK {
				t.Fatal(e)
			}
			d = next
			for _, f := range landed {
				ends[f.Request.Task] = d.Now
			}
			for _, f := range d.Flights {
				if begins[f.Request.Task] == 0 {
					begins[f.Request.Task] = d.Now
				}
			}
		}
		return begins, ends, d
	}
	begins, ends, d := run(start(config, read(7, 2, 0, 3), read(8, 2, 50, 1)), 6)
	if begins[7] != 1 || ends[7] != 3 || begins[8] != 4 || ends[8] != 5 || d.Free != 40 {
		t.Error(begins, ends, d)
	}
	limited := start(config, read(7, 2, 0, 1), read(8, 2, 50, 1), read(9, 5, 0, 1))
	limited, _ = device.Set(sample(), limited, 2, settings(func(s *api.DeviceSettings) { s.ReadOps = 1 }))
	begins, _, _ = run(limited, 120)
	if begins[7] != 1 || begins[8] != 101 || begins[9] != 2 {
		t.Error(begins)
	}
	// A request costs at least one unit, and ends no earlier than in the next tick.
	begins, ends, d = run(start(api.DeviceConfig{Speed: 10}, read(7, 2, 0, 3), write(8, 2, 0, 1)), 1)
	if begins[7] != 1 || begins[8] != 1 && len(d.Flights) != 1 || len(ends) != 0 {
		t.Error(begins, ends, d)
	}
	_, ends, d = run(start(api.DeviceConfig{Speed: 10, Margin: 10}, read(7, 2, 0, 3), write(8, 2, 0, 1)), 2)
	if ends[7] != 2 || ends[8] != 2 || d.Free != 2 {
		t.Error(ends, d)
	}
	// Groups that wait all the time are served by their weights.
	shared := start(api.DeviceConfig{Model: api.Model{ReadPage: 1000}, Speed: 1000, Margin: 1000})
	shared, _ = device.Set(sample(), shared, 2, settings(func(s *api.DeviceSettings) { s.Weight = 300 }))
	served := map[int]int{}
	for range 400 {
		for _, r := range []api.Request{read(1, 2, 0, 1), read(2, 5, 0, 1)} {
			if device.Pending(shared, r.Task) < 3 {
				shared, _ = device.Submit(sample(), shared, r)
			}
		}
		var landed []api.Flight
		shared, landed, _ = device.Tick(sample(), shared)
		for _, f := range landed {
			served[f.Request.Group]++
		}
	}
	if served[2] < 295 || served[2] > 305 || served[5] < 95 || served[5] > 105 {
		t.Error(served)
	}
	// A request that iofair.Issue refuses ends the tick, although others could begin.
	deep := api.Tree{Next: 8, Nodes: []api.Node{{ID: 1}, {ID: 2, Parent: 1, Name: "a"}, {ID: 3, Parent: 1, Name: "b"}, {ID: 4, Parent: 2, Name: "a"}, {ID: 5, Parent: 2, Name: "b"}, {ID: 6, Parent: 4, Name: "a"}, {ID: 7, Parent: 4, Name: "b"}}}
	costly, _ := device.New(api.DeviceConfig{Model: api.Model{ReadPage: 1000000}, Speed: 1000000})
	for id := 2; id < 8; id++ {
		weight := 1
		if id%2 == 1 {
			weight = 10000
			costly.V = append(costly.V, api.Account{Group: id, V: 1})
		}
		costly, _ = device.Set(deep, costly, id, settings(func(s *api.DeviceSettings) { s.Weight = weight }))
	}
	for _, id := range []int{3, 5, 7, 6} {
		costly, _ = device.Submit(deep, costly, read(id, id, 0, 4096))
	}
	want := costly
	want.Now = 1
	if next, l, e := device.Tick(deep, costly); e != api.OK || len(l) != 0 || !eq(next, want) {
		t.Error(next, l, e)
	}
	// An account that is full ends the tick.
	stuck := start(config, read(7, 2, 0, 1))
	stuck.V = []api.Account{{Group: 2, V: 1 << 60}}
	if next, _, e := device.Tick(sample(), stuck); e != api.OK || len(next.Flights) != 0 || len(next.Queue) != 1 || next.Now != 1 {
		t.Error(next, e)
	}
}

func TestP34_6(t *testing.T) {
	d := base()
	for task, want := range map[int]int{1: 3, 2: 1, 3: 1, 4: 1, 5: 0, 0: 0} {
		if n := device.Pending(d, task); n != want {
			t.Error(task, n)
		}
	}
	for task, want := range map[int]api.Device{1: with(func(d *api.Device) { d.Queue = d.Queue[1:2] }), 3: base(), 9: base()} {
		got := device.Cancel(d, task)
		if !eq(got, want) {
			t.Error(task, got)
		}
		scribble(got)
		if !eq(d, base()) {
			t.Fatal("memory is shared")
		}
	}
	if n := device.Pending(device.Cancel(wrong, 1), 1); n != 1 {
		t.Error("a device that is not valid", n)
	}
}

func TestP34_7(t *testing.T) {
	smaller := api.Tree{Next: 9, Nodes: []api.Node{{ID: 1}, {ID: 5, Parent: 1, Name: "c"}}}
	d := base()
	got, e := device.Adjust(smaller, d)
	want := with(func(d *api.Device) {
		d.Weights, d.Buckets, d.Depths, d.V, d.Queue = nil, nil, d.Depths[1:], nil, d.Queue[1:2]
		d.Flights[0].Request.Group, d.Flights[2].Request.Group = 1, 1
	})
	compare(t, 0, d, got, want, e, api.OK)
	got, e = device.Adjust(sample(), d)
	compare(t, 1, d, got, base(), e, api.OK)
	for i, x := range []struct {
		t api.Tree
		d api.Device
	}{{bad, base()}, {sample(), wrong}, {bad, api.Device{Config: config}}, {sample(), api.Device{}}} {
		if got, e := device.Adjust(x.t, x.d); e != api.ErrInvalid || !eq(got, api.Device{}) {
			t.Error(i, got, e)
		}
	}
}

// TestConsequences compares with tick, and checks what chapter 34 says about limits and depths.
func TestConsequences(t *testing.T) {
	r := rand.New(rand.NewSource(36))
	tr := sample()
	landed := 0
	for range 60 {
		d, _ := device.New(api.DeviceConfig{Model: api.Model{ReadBase: r.Intn(9), ReadPage: r.Intn(4), WriteBase: r.Intn(9), WritePage: r.Intn(4), Seek: r.Intn(5)}, Speed: 1 + r.Intn(30), Margin: r.Intn(60)})
		limit := func() int {
			if r.Intn(2) == 0 {
				return max
			}
			return 1 + r.Intn(300)
		}
		for _, id := range []int{1, 2, 3, 5} {
			d, _ = device.Set(tr, d, id, api.DeviceSettings{Weight: 1 + r.Intn(500), ReadPages: limit(), WritePages: limit(), ReadOps: limit(), WriteOps: limit(), Target: r.Intn(9)})
			if r.Intn(2) == 0 {
				k := slices.IndexFunc(d.Depths, func(x api.Depth) bool { return x.Group == id })
				if k >= 0 {
					d.Depths[k].Depth = 1 + r.Intn(4)
				}
			}
		}
		first := d
		reads, ops := map[int]int{}, map[int]int{}
		for n := 1; n <= 60; n++ {
			for range r.Intn(4) {
				x := read(1+r.Intn(3), []int{1, 2, 3, 5}[r.Intn(4)], r.Intn(100), 1+r.Intn(60))
				x.Write = r.Intn(3) == 0
				d, _ = device.Submit(tr, d, x)
			}
			want, ended := tick(tr, d)
			next, l, e := device.Tick(tr, d)
			if e != api.OK || !eq(next, want) || !eq(l, ended) || !device.Valid(tr, next) {
				t.Fatal(d, next, want, e)
			}
			landed += len(l)
			begun := map[int]int{}
			for _, f := range next.Flights {
				begun[f.Request.Group]++
				if f.Done <= next.Now {
					t.Fatal(f)
				}
			}
			for _, f := range d.Flights {
				if !slices.Contains(l, f) {
					begun[f.Request.Group]--
				}
			}
			for _, f := range next.Flights {
				if f.Request.Write || slices.ContainsFunc(d.Flights, func(g api.Flight) bool { return g == f }) {
					continue
				}
				for _, id := range tree.Ancestors(tr, f.Request.Group) {
					reads[id] += f.Request.Pages
					ops[id]++
				}
			}
			for _, c := range first.Buckets {
				if c.ReadPages.Rate != max && reads[c.Group] > n*c.ReadPages.Rate/100+c.ReadPages.Burst || c.ReadOps.Rate != max && ops[c.Group] > n*c.ReadOps.Rate/100+c.ReadOps.Rate {
					t.Fatal(c, reads, ops, n)
				}
			}
			for id := range begun {
				for _, a := range tree.Ancestors(tr, id) {
					flying := 0
					for _, f := range next.Flights {
						if slices.Contains(tree.Subtree(tr, a), f.Request.Group) {
							flying++
						}
					}
					if begun[id] > 0 && flying > latency.Get(d.Depths, a).Depth {
						t.Fatal(a, flying, d.Depths)
					}
				}
			}
			d = next
		}
	}
	if landed < 500 {
		t.Error(landed)
	}
}
