package bandwidth_test

import (
	"fmt"
	"math"
	"math/rand"
	"slices"
	"testing"

	"groupcontrol/api"
	"groupcontrol/bandwidth"
)

func eq(a, b any) bool { return fmt.Sprint(a) == fmt.Sprint(b) }

// sample has the quota 10 and the burst 5; it holds 12 tokens.
func sample() api.Pool {
	return api.Pool{Group: 7, Quota: 10, Burst: 5, Slice: 3, Left: 8, Local: []int{0, 4}, Spent: 3, Periods: 6, Throttled: 2}
}

// open has no limit.
func open() api.Pool {
	return api.Pool{Group: 7, Quota: api.Max, Slice: 3, Local: []int{0, 0}, Spent: 3, Periods: 6, Throttled: 2}
}

func with(p api.Pool, change func(*api.Pool)) api.Pool {
	p.Local = slices.Clone(p.Local)
	change(&p)
	return p
}

var bad = with(sample(), func(p *api.Pool) { p.Left = -1 })

func TestP17_1(t *testing.T) {
	for i, x := range []struct {
		p    api.Pool
		want bool
	}{
		{sample(), true}, {open(), true}, {api.Pool{}, false}, {bad, false},
		{with(sample(), func(p *api.Pool) { p.Group = 0 }), false}, {with(sample(), func(p *api.Pool) { p.Group = 1 }), true}, {with(sample(), func(p *api.Pool) { p.Group = api.MaxID }), true}, {with(sample(), func(p *api.Pool) { p.Group = api.MaxID + 1 }), false},
		{api.Pool{Group: 1, Quota: 0, Slice: 1, Local: []int{0}, Periods: 1}, false}, {api.Pool{Group: 1, Quota: 1, Slice: 1, Local: []int{0}, Periods: 1}, true}, {with(sample(), func(p *api.Pool) { p.Quota = 1000000 }), true}, {with(sample(), func(p *api.Pool) { p.Quota = 1000001 }), false}, {with(sample(), func(p *api.Pool) { p.Quota = api.Max + 1 }), false},
		{with(sample(), func(p *api.Pool) { p.Burst = 10 }), true}, {with(sample(), func(p *api.Pool) { p.Burst = 11 }), false}, {with(sample(), func(p *api.Pool) { p.Burst = -1; p.Left = 0 }), false}, {with(sample(), func(p *api.Pool) { p.Burst = 0; p.Left = 0 }), true}, {with(open(), func(p *api.Pool) { p.Burst = 1 }), false}, {with(open(), func(p *api.Pool) { p.Burst = -1 }), false},
		{with(sample(), func(p *api.Pool) { p.Slice = 0 }), false}, {with(sample(), func(p *api.Pool) { p.Slice = 1 }), true}, {with(sample(), func(p *api.Pool) { p.Slice = 1000000 }), true}, {with(sample(), func(p *api.Pool) { p.Slice = 1000001 }), false},
		{with(sample(), func(p *api.Pool) { p.Local = nil }), false}, {with(sample(), func(p *api.Pool) { p.Local = []int{7} }), true}, {with(sample(), func(p *api.Pool) { p.Local = make([]int, 16) }), true}, {with(sample(), func(p *api.Pool) { p.Local = make([]int, 17) }), false}, {with(sample(), func(p *api.Pool) { p.Local[0] = -1 }), false}, {with(sample(), func(p *api.Pool) { p.Left = 0 }), true},
		{with(sample(), func(p *api.Pool) { p.Left = 11 }), true}, {with(sample(), func(p *api.Pool) { p.Left = 12 }), false}, {with(sample(), func(p *api.Pool) { p.Local[0] = 3 }), true}, {with(sample(), func(p *api.Pool) { p.Local[0] = 4 }), false}, {with(sample(), func(p *api.Pool) { p.Left = math.MaxInt }), false}, {with(sample(), func(p *api.Pool) { p.Left = 1 << 62; p.Local = []int{1 << 62, 1 << 62, 1 << 62} }), false},
		{with(open(), func(p *api.Pool) { p.Left = 1 }), false}, {with(open(), func(p *api.Pool) { p.Local[1] = 1 }), false}, {with(open(), func(p *api.Pool) { p.Local[1] = -1; p.Left = 1 }), false},
		{with(sample(), func(p *api.Pool) { p.Spent = -1 }), false}, {with(sample(), func(p *api.Pool) { p.Spent = 0 }), true}, {with(sample(), func(p *api.Pool) { p.Spent = api.MaxValue }), true}, {with(sample(), func(p *api.Pool) { p.Spent = api.MaxValue + 1 }), false},
		{with(sample(), func(p *api.Pool) { p.Periods = 2 }), false}, {with(sample(), func(p *api.Pool) { p.Periods = 3 }), true}, {with(sample(), func(p *api.Pool) { p.Periods = 2; p.Empty = true }), true}, {with(sample(), func(p *api.Pool) { p.Periods = 1; p.Empty = true }), false}, {with(sample(), func(p *api.Pool) { p.Periods = api.MaxValue }), true}, {with(sample(), func(p *api.Pool) { p.Periods = api.MaxValue + 1 }), false},
		{with(sample(), func(p *api.Pool) { p.Periods = 0; p.Throttled = 0 }), false}, {with(sample(), func(p *api.Pool) { p.Periods = 0; p.Throttled = 0; p.Empty = true }), true}, {with(sample(), func(p *api.Pool) { p.Periods = -1; p.Throttled = -1; p.Empty = true }), false}, {with(sample(), func(p *api.Pool) { p.Throttled = -1 }), false}, {with(sample(), func(p *api.Pool) { p.Throttled = 0 }), true}, {with(sample(), func(p *api.Pool) { p.Periods, p.Throttled, p.Empty = api.MaxValue+1, api.MaxValue+1, true }), false},
	} {
		if bandwidth.Check(x.p) != x.want {
			t.Error(i, x.p)
		}
	}
	if bandwidth.Held(sample()) != 12 || bandwidth.Held(bad) != 3 || bandwidth.Held(api.Pool{}) != 0 || bandwidth.Held(api.Pool{Left: -5, Local: []int{1, 2, 4}}) != 2 {
		t.Error("Held")
	}
	if !bandwidth.Limited(sample()) || bandwidth.Limited(open()) || !bandwidth.Limited(api.Pool{}) || bandwidth.Limited(api.Pool{Quota: api.Max, Left: 5}) || !bandwidth.Limited(api.Pool{Quota: api.Max + 1}) {
		t.Error("Limited")
	}
	for i, x := range []struct {
		group, quota, burst, slice, cpus int
		want                             api.Pool
		e                                api.Errno
	}{
		{7, 10, 5, 3, 2, api.Pool{Group: 7, Quota: 10, Burst: 5, Slice: 3, Left: 10, Local: []int{0, 0}, Periods: 1}, api.OK}, {1, api.Max, 0, 1, 1, api.Pool{Group: 1, Quota: api.Max, Slice: 1, Local: []int{0}, Periods: 1}, api.OK}, {api.MaxID, 1000000, 1000000, 1000000, 16, api.Pool{Group: api.MaxID, Quota: 1000000, Burst: 1000000, Slice: 1000000, Left: 1000000, Local: make([]int, 16), Periods: 1}, api.OK},
		{0, 10, 5, 3, 2, api.Pool{}, api.ErrRange}, {7, 0, 0, 3, 2, api.Pool{}, api.ErrRange}, {7, 10, 11, 3, 2, api.Pool{}, api.ErrRange}, {7, 10, -1, 3, 2, api.Pool{}, api.ErrRange}, {7, api.Max, 1, 3, 2, api.Pool{}, api.ErrRange}, {7, 10, 5, 0, 2, api.Pool{}, api.ErrRange}, {7, 10, 5, 3, 0, api.Pool{}, api.ErrRange}, {7, 10, 5, 3, 17, api.Pool{}, api.ErrRange}, {7, 10, 5, 3, -1, api.Pool{}, api.ErrRange}, {7, 10, 5, 3, math.MaxInt, api.Pool{}, api.ErrRange}, {7, math.MinInt, math.MaxInt, 3, 1, api.Pool{}, api.ErrRange},
	} {
		if p, e := bandwidth.New(x.group, x.quota, x.burst, x.slice, x.cpus); e != x.e || !eq(p, x.want) {
			t.Error(i, p, e)
		}
	}
}

// compare compares a pool with what is expected, and sees that it shares no memory with the argument.
func compare(t *testing.T, i int, p, got, want api.Pool, e, f api.Errno) {
	t.Helper()
	before := fmt.Sprint(p)
	if e != f || !eq(got, want) || (e == api.OK || e == api.ErrAgain && got.Group != 0) && !bandwidth.Check(got) {
		t.Error(i, got, e)
	}
	for k := range got.Local {
		got.Local[k] = 99
	}
	if fmt.Sprint(p) != before {
		t.Error(i, "memory is shared")
	}
}

type call struct {
	p    api.Pool
	cpu  int
	want api.Pool
	e    api.Errno
}

func TestP17_2(t *testing.T) {
	for i, x := range []struct {
		p         api.Pool
		cpu, want int
	}{{sample(), 0, 8}, {sample(), 1, 12}, {sample(), 2, 0}, {sample(), -1, 0}, {open(), 0, api.MaxValue}, {open(), 1, api.MaxValue}, {open(), 2, 0}, {open(), -1, 0}, {bad, 1, 0}, {with(open(), func(p *api.Pool) { p.Left = 1 }), 0, 0}} {
		if n := bandwidth.Room(x.p, x.cpu); n != x.want {
			t.Error(i, n)
		}
	}
	none := with(sample(), func(p *api.Pool) { p.Left = 0 })
	for i, x := range []call{
		{sample(), 0, with(sample(), func(p *api.Pool) { p.Left = 5; p.Local[0] = 3 }), api.OK}, {sample(), 1, with(sample(), func(p *api.Pool) { p.Left = 5; p.Local[1] = 7 }), api.OK}, {with(sample(), func(p *api.Pool) { p.Left = 2 }), 1, with(sample(), func(p *api.Pool) { p.Left = 0; p.Local[1] = 6 }), api.OK}, {open(), 1, open(), api.OK},
		{bad, 0, api.Pool{}, api.ErrInvalid}, {bad, 5, api.Pool{}, api.ErrInvalid}, {none, 2, api.Pool{}, api.ErrRange}, {none, -1, api.Pool{}, api.ErrRange}, {open(), 2, api.Pool{}, api.ErrRange}, {none, 0, api.Pool{}, api.ErrAgain}, {none, 1, api.Pool{}, api.ErrAgain},
	} {
		got, e := bandwidth.Take(x.p, x.cpu)
		compare(t, i, x.p, got, x.want, e, x.e)
	}
	for i, x := range []call{
		{sample(), 0, with(sample(), func(p *api.Pool) { p.Left, p.Local[0], p.Spent = 5, 2, 4 }), api.OK}, {sample(), 1, with(sample(), func(p *api.Pool) { p.Local[1], p.Spent = 3, 4 }), api.OK}, {none, 1, with(none, func(p *api.Pool) { p.Local[1], p.Spent = 3, 4 }), api.OK}, {with(none, func(p *api.Pool) { p.Left, p.Empty = 1, true }), 0, with(none, func(p *api.Pool) { p.Spent, p.Empty = 4, true }), api.OK}, {open(), 0, with(open(), func(p *api.Pool) { p.Spent = 4 }), api.OK}, {with(open(), func(p *api.Pool) { p.Spent = api.MaxValue }), 0, with(open(), func(p *api.Pool) { p.Spent = api.MaxValue }), api.OK}, {with(sample(), func(p *api.Pool) { p.Spent = api.MaxValue }), 1, with(sample(), func(p *api.Pool) { p.Spent, p.Local[1] = api.MaxValue, 3 }), api.OK},
		{bad, 0, api.Pool{}, api.ErrInvalid}, {bad, 5, api.Pool{}, api.ErrInvalid}, {none, 2, api.Pool{}, api.ErrRange}, {none, -1, api.Pool{}, api.ErrRange}, {open(), 2, api.Pool{}, api.ErrRange},
	} {
		got, e := bandwidth.Spend(x.p, x.cpu)
		compare(t, i, x.p, got, x.want, e, x.e)
	}
	for i, x := range []call{
		{sample(), 1, with(sample(), func(p *api.Pool) { p.Left, p.Local[1] = 12, 0 }), api.OK}, {sample(), 0, sample(), api.OK}, {open(), 1, open(), api.OK}, {bad, 1, api.Pool{}, api.ErrInvalid}, {bad, 5, api.Pool{}, api.ErrInvalid}, {sample(), 2, api.Pool{}, api.ErrRange}, {sample(), -1, api.Pool{}, api.ErrRange},
	} {
		got, e := bandwidth.Return(x.p, x.cpu)
		compare(t, i, x.p, got, x.want, e, x.e)
	}
}

func TestP17_3(t *testing.T) {
	none := with(sample(), func(p *api.Pool) { p.Left = 0 })
	empty := with(none, func(p *api.Pool) { p.Empty, p.Throttled = true, 3 })
	for i, x := range []call{{none, 0, empty, api.ErrAgain}, {empty, 0, empty, api.ErrAgain}, {with(none, func(p *api.Pool) { p.Throttled = 5 }), 0, with(empty, func(p *api.Pool) { p.Throttled = 6 }), api.ErrAgain}} {
		got, e := bandwidth.Spend(x.p, x.cpu)
		compare(t, i, x.p, got, x.want, e, x.e)
	}
	for i, x := range []call{
		{sample(), 0, with(sample(), func(p *api.Pool) { p.Left, p.Spent, p.Periods = 11, 0, 7 }), api.OK}, {with(sample(), func(p *api.Pool) { p.Left = 1 }), 0, with(sample(), func(p *api.Pool) { p.Left, p.Spent, p.Periods = 11, 0, 7 }), api.OK}, {empty, 0, with(sample(), func(p *api.Pool) { p.Left, p.Spent, p.Periods, p.Throttled = 10, 0, 7, 3 }), api.OK}, {with(sample(), func(p *api.Pool) { p.Left = 11 }), 0, with(sample(), func(p *api.Pool) { p.Left, p.Spent, p.Periods = 11, 0, 7 }), api.OK}, {open(), 0, with(open(), func(p *api.Pool) { p.Spent, p.Periods = 0, 7 }), api.OK},
		{with(sample(), func(p *api.Pool) { p.Periods = api.MaxValue }), 0, api.Pool{}, api.ErrLimit}, {with(sample(), func(p *api.Pool) { p.Periods = api.MaxValue - 1 }), 0, with(sample(), func(p *api.Pool) { p.Left, p.Spent, p.Periods = 11, 0, api.MaxValue }), api.OK}, {bad, 0, api.Pool{}, api.ErrInvalid}, {with(bad, func(p *api.Pool) { p.Periods = api.MaxValue }), 0, api.Pool{}, api.ErrInvalid},
	} {
		got, e := bandwidth.Refill(x.p)
		compare(t, i, x.p, got, x.want, e, x.e)
	}
}

func TestP17_4(t *testing.T) {
	for i, x := range []struct {
		p            api.Pool
		quota, burst int
		want         api.Pool
		e            api.Errno
	}{
		{sample(), 20, 0, with(sample(), func(p *api.Pool) { p.Quota, p.Burst = 20, 0 }), api.OK}, {sample(), 12, 0, with(sample(), func(p *api.Pool) { p.Quota, p.Burst = 12, 0 }), api.OK}, {sample(), 5, 5, with(sample(), func(p *api.Pool) { p.Quota, p.Burst, p.Left = 5, 5, 6 }), api.OK}, {sample(), 4, 0, with(sample(), func(p *api.Pool) { p.Quota, p.Burst, p.Left = 4, 0, 0 }), api.OK}, {sample(), 3, 0, with(sample(), func(p *api.Pool) { p.Quota, p.Burst, p.Left, p.Local[1] = 3, 0, 0, 3 }), api.OK},
		{with(sample(), func(p *api.Pool) { p.Local = []int{3, 2, 1}; p.Left = 1 }), 4, 0, with(sample(), func(p *api.Pool) { p.Quota, p.Burst, p.Local, p.Left = 4, 0, []int{3, 1, 0}, 0 }), api.OK}, {with(sample(), func(p *api.Pool) { p.Local = []int{3, 2, 1}; p.Left = 1 }), 1, 1, with(sample(), func(p *api.Pool) { p.Quota, p.Burst, p.Local, p.Left = 1, 1, []int{2, 0, 0}, 0 }), api.OK},
		{sample(), api.Max, 0, with(open(), func(p *api.Pool) {}), api.OK}, {open(), 10, 5, with(open(), func(p *api.Pool) { p.Quota, p.Burst = 10, 5 }), api.OK}, {sample(), 1000000, 1000000, with(sample(), func(p *api.Pool) { p.Quota, p.Burst = 1000000, 1000000 }), api.OK},
		{bad, 10, 5, api.Pool{}, api.ErrInvalid}, {bad, 0, 5, api.Pool{}, api.ErrInvalid}, {sample(), 0, 0, api.Pool{}, api.ErrRange}, {sample(), 10, 11, api.Pool{}, api.ErrRange}, {sample(), 10, -1, api.Pool{}, api.ErrRange}, {sample(), api.Max, 1, api.Pool{}, api.ErrRange}, {sample(), 1000001, 1, api.Pool{}, api.ErrRange}, {sample(), math.MaxInt, math.MaxInt, api.Pool{}, api.ErrRange}, {sample(), -5, 0, api.Pool{}, api.ErrRange},
	} {
		got, e := bandwidth.Change(x.p, x.quota, x.burst)
		compare(t, i, x.p, got, x.want, e, x.e)
	}
}

// TestConsequences: n periods cost at most n times the quota, and the burst.
func TestConsequences(t *testing.T) {
	r := rand.New(rand.NewSource(18))
	for round := 0; round < 300; round++ {
		quota := 1 + r.Intn(20)
		burst := r.Intn(quota + 1)
		p, _ := bandwidth.New(1, quota, burst, 1+r.Intn(6), 3)
		for i := r.Intn(30); i > 0; i-- {
			if n, e := bandwidth.Spend(p, r.Intn(3)); e == api.OK {
				p = n
			}
		}
		spent := 0
		for n := 1; n < 8; n++ {
			p, _ = bandwidth.Refill(p)
			for i := r.Intn(60); i > 0; i-- {
				cpu := r.Intn(3)
				held, room := bandwidth.Held(p), bandwidth.Room(p, cpu)
				var next api.Pool
				var e api.Errno
				switch r.Intn(4) {
				case 0:
					next, e = bandwidth.Take(p, cpu)
				case 1:
					next, e = bandwidth.Return(p, cpu)
				default:
					next, e = bandwidth.Spend(p, cpu)
					if (e == api.OK) != (room > 0) {
						t.Fatal(p, cpu, e)
					}
					if e == api.OK {
						spent++
						held--
					}
				}
				if e == api.OK && bandwidth.Held(next) != held {
					t.Fatal(p, next)
				}
				if e == api.OK || next.Group != 0 {
					p = next
				}
				if !bandwidth.Check(p) {
					t.Fatal(p)
				}
			}
			if spent > n*quota+burst {
				t.Fatal(spent, n, quota, burst)
			}
		}
	}
}

// TestExample: what is not spent can be saved up, up to the burst.
func TestExample(t *testing.T) {
	p, _ := bandwidth.New(1, 10, 5, 4, 1)
	q, _ := bandwidth.Refill(p)
	for want, p := range map[int]api.Pool{10: p, 15: q} {
		n := 0
		for ; ; n++ {
			var e api.Errno
			if p, e = bandwidth.Spend(p, 0); e != api.OK {
				break
			}
		}
		if n != want {
			t.Error(n, want)
		}
	}
}
