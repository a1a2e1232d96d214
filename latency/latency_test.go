package latency_test

import (
	"fmt"
	"math"
	"math/rand"
	"slices"
	"testing"

	"groupcontrol/api"
	"groupcontrol/latency"
	"groupcontrol/tree"
)

func eq(a, b any) bool { return fmt.Sprint(a) == fmt.Sprint(b) }

// sample has /a (2), /b (3), /c (4), /a/d (6), /a/e (7).
func sample() api.Tree {
	return api.Tree{Next: 8, Nodes: []api.Node{{ID: 1}, {ID: 2, Parent: 1, Name: "a"}, {ID: 3, Parent: 1, Name: "b"}, {ID: 4, Parent: 1, Name: "c"}, {ID: 6, Parent: 2, Name: "d"}, {ID: 7, Parent: 2, Name: "e"}}}
}

var bad = func() api.Tree { t := sample(); t.Next = 1; return t }()

// depths returns depths: groups with their targets and depths.
func depths(numbers ...int) []api.Depth {
	var l []api.Depth
	for i := 0; i < len(numbers); i += 3 {
		l = append(l, api.Depth{Group: numbers[i], Target: numbers[i+1], Depth: numbers[i+2]})
	}
	return l
}

// samples returns n samples of a group with a latency.
func samples(group, latency, n int) []api.Sample {
	return slices.Repeat([]api.Sample{{Group: group, Latency: latency}}, n)
}

func charges(numbers ...int) []api.Charge {
	var l []api.Charge
	for i := 0; i < len(numbers); i += 2 {
		l = append(l, api.Charge{Group: numbers[i], Own: numbers[i+1]})
	}
	return l
}

const most = api.MaxRequests

func TestP33_1(t *testing.T) {
	for i, x := range []struct {
		t    api.Tree
		l    []api.Depth
		want bool
	}{
		{sample(), nil, true}, {bad, nil, false}, {sample(), depths(1, 0, 1, 7, api.MaxTime, most), true}, {sample(), depths(2, -1, 1), false}, {sample(), depths(2, api.MaxTime+1, 1), false}, {sample(), depths(2, 1, 0), false}, {sample(), depths(2, 1, most+1), false}, {sample(), depths(3, 1, 1, 2, 1, 1), false}, {sample(), depths(3, 1, 1, 3, 1, 1), false}, {sample(), depths(5, 1, 1), false}, {bad, depths(2, 1, 1), false},
	} {
		if latency.Valid(x.t, x.l) != x.want {
			t.Error(i)
		}
	}
	odd := depths(9, 1, -2, 2, 3, 4, 9, 5, 6)
	for id, want := range map[int]api.Depth{9: odd[0], 2: odd[1], 1: {Group: 1, Depth: most}} {
		if d := latency.Get(odd, id); d != want {
			t.Error(id, d)
		}
	}
	l := depths(2, 10, 5, 3, 0, 5, 6, 1, 5)
	for i, x := range []struct {
		samples []api.Sample
		id      int
		want    bool
	}{
		{nil, 2, false}, {samples(2, 11, 1), 2, true}, {samples(2, 10, 1), 2, false}, {append(samples(2, 10, 7), samples(2, 11, 1)...), 2, false}, {append(samples(2, 10, 6), samples(2, 11, 1)...), 2, true}, {append(samples(2, 10, 13), samples(2, 11, 2)...), 2, true}, {append(samples(2, 11, 2), samples(2, 10, 14)...), 2, false}, {samples(3, 11, 9), 3, false}, {samples(4, 11, 9), 4, false}, {samples(3, 11, 9), 2, false}, {append(samples(3, 1, 99), samples(2, 11, 1)...), 2, true}, {samples(2, math.MaxInt, 9), 2, true}, {samples(2, -5, 9), 2, false}, {samples(6, 2, 1), 6, true}, {samples(6, 1, 1), 6, false}, {append(samples(3, 11, 3), samples(2, 11, 1)...), 2, true},
	} {
		before := fmt.Sprint(x.samples)
		if latency.Missed(l, x.samples, x.id) != x.want || fmt.Sprint(x.samples) != before {
			t.Error(i)
		}
	}
}

func TestP33_2(t *testing.T) {
	slow := samples(2, 20, 1)
	for i, x := range []struct {
		t       api.Tree
		l       []api.Depth
		samples []api.Sample
		want    []api.Depth
		e       api.Errno
	}{
		{sample(), depths(2, 10, 64, 3, 0, 64), slow, depths(2, 10, 80, 3, 0, 32, 4, 0, 128), api.OK}, {sample(), depths(2, 10, 80, 3, 0, 32, 4, 0, 128), samples(2, 10, 5), depths(2, 10, 100, 3, 0, 40, 4, 0, 160), api.OK}, {sample(), nil, nil, nil, api.OK}, {sample(), depths(3, 0, 205, 4, 0, 204), nil, depths(4, 0, 255), api.OK}, {sample(), depths(3, 0, 1, 4, 0, 3, 6, 0, 4, 7, 0, 8), nil, depths(3, 0, 2, 4, 0, 4, 6, 0, 5, 7, 0, 10), api.OK}, {sample(), depths(1, 0, 8), slow, depths(1, 0, 10), api.OK},
		// a greater, an equal and a lower target
		{sample(), depths(2, 10, 64, 3, 11, 64, 4, 10, 64), slow, depths(2, 10, 80, 3, 11, 32, 4, 10, 64), api.OK}, {sample(), depths(2, 10, 64, 3, 9, 64, 4, 1, 1), slow, depths(2, 10, 80, 3, 9, 64, 4, 1, 1), api.OK}, {sample(), depths(2, 10, 64, 3, 0, 1), slow, depths(2, 10, 80, 3, 0, 1, 4, 0, 128), api.OK}, {sample(), depths(2, 10, 64, 3, 0, 3), slow, depths(2, 10, 80, 3, 0, 1, 4, 0, 128), api.OK},
		// the least target that is missed decides
		{sample(), depths(2, 10, 64, 3, 20, 64, 4, 15, 64), append(samples(3, 21, 1), slow...), depths(2, 10, 64, 3, 20, 32, 4, 15, 32), api.OK}, {sample(), depths(2, 30, 64, 3, 20, 64, 4, 25, 64), append(samples(3, 21, 1), samples(2, 31, 1)...), depths(2, 30, 32, 3, 20, 64, 4, 25, 32), api.OK},
		// other levels do not matter, nor do samples of groups that there are not
		{sample(), depths(2, 10, 64, 6, 0, 64), append(samples(77, 99, 3), slow...), depths(2, 10, 80, 3, 0, 128, 4, 0, 128, 6, 0, 80), api.OK}, {sample(), depths(6, 5, 64, 7, 0, 64), samples(6, 6, 1), depths(6, 5, 80, 7, 0, 32), api.OK}, {sample(), depths(2, 0, 256, 3, 7, 256), nil, depths(3, 7, 256), api.OK},
		{bad, nil, samples(2, -1, 2000), nil, api.ErrInvalid}, {sample(), depths(5, 1, 1), samples(2, -1, 2000), nil, api.ErrInvalid}, {sample(), nil, samples(2, -1, 1025), nil, api.ErrLimit}, {sample(), nil, samples(2, 1, 1024), nil, api.OK}, {sample(), nil, samples(2, -1, 1), nil, api.ErrRange}, {sample(), nil, samples(77, api.MaxTime+1, 1), nil, api.ErrRange}, {sample(), nil, samples(2, api.MaxTime, 1), nil, api.OK},
	} {
		before := fmt.Sprint(x.l)
		got, e := latency.Step(x.t, x.l, x.samples)
		if !eq(got, x.want) || e != x.e {
			t.Error(i, got, e)
		}
		for k := range got {
			got[k].Group = 99
		}
		if fmt.Sprint(x.l) != before {
			t.Error(i, "memory is shared")
		}
	}
}

func TestP33_3(t *testing.T) {
	l := depths(2, 0, 5, 6, 0, 3, 7, 9, 1)
	for i, x := range []struct {
		t       api.Tree
		l       []api.Depth
		flights []api.Charge
		id      int
		want    bool
		e       api.Errno
	}{
		{sample(), l, nil, 6, true, api.OK}, {sample(), l, charges(6, 2), 6, true, api.OK}, {sample(), l, charges(6, 3), 6, false, api.OK}, {sample(), l, charges(6, 3), 2, true, api.OK}, {sample(), l, charges(2, 2, 6, 2), 6, true, api.OK}, {sample(), l, charges(2, 3, 6, 2), 6, false, api.OK}, {sample(), l, charges(2, 4, 6, 0, 7, 1), 6, false, api.OK}, {sample(), l, charges(2, 4, 6, 0, 7, 0), 7, true, api.OK}, {sample(), l, charges(3, most), 6, false, api.OK}, {sample(), l, charges(3, most-1), 6, true, api.OK}, {sample(), l, charges(3, most-1), 3, true, api.OK}, {sample(), l, charges(3, most), 1, false, api.OK}, {sample(), depths(1, 0, 2), charges(3, 1, 4, 1), 7, false, api.OK},
		{bad, l, nil, 9, false, api.ErrInvalid}, {sample(), depths(5, 1, 1), nil, 9, false, api.ErrInvalid}, {sample(), l, charges(3, 1, 2, 1), 9, false, api.ErrInvalid}, {sample(), l, charges(3, 1, 3, 1), 9, false, api.ErrInvalid}, {sample(), l, charges(5, 1), 9, false, api.ErrInvalid}, {sample(), l, charges(3, -1), 3, false, api.ErrInvalid}, {sample(), l, charges(3, most+1), 9, false, api.ErrInvalid}, {sample(), l, nil, 5, false, api.ErrUnknown}, {sample(), l, nil, 0, false, api.ErrUnknown},
	} {
		if ok, e := latency.Allowed(x.t, x.l, x.flights, x.id); ok != x.want || e != x.e {
			t.Error(i, ok, e)
		}
	}
}

// TestConsequences checks the laws of chapter 33.
func TestConsequences(t *testing.T) {
	r := rand.New(rand.NewSource(35))
	for range 300 {
		var l []api.Depth
		for _, n := range sample().Nodes {
			if r.Intn(3) > 0 {
				l = append(l, api.Depth{Group: n.ID, Target: r.Intn(3) * r.Intn(10), Depth: 1 + r.Intn(most)})
			}
		}
		for range 5 {
			var s []api.Sample
			for range r.Intn(30) {
				s = append(s, api.Sample{Group: 1 + r.Intn(8), Latency: r.Intn(20)})
			}
			next, e := latency.Step(sample(), l, s)
			r.Shuffle(len(s), func(i, k int) { s[i], s[k] = s[k], s[i] })
			again, _ := latency.Step(sample(), l, s)
			if e != api.OK || !eq(next, again) || !latency.Valid(sample(), next) {
				t.Fatal(l, next, again)
			}
			for _, n := range sample().Nodes {
				a, b := latency.Get(l, n.ID), latency.Get(next, n.ID)
				least := a.Target > 0
				for _, id := range tree.Children(sample(), n.Parent) {
					if d := latency.Get(l, id); d.Target > 0 && d.Target < a.Target {
						least = false
					}
				}
				if a.Target != b.Target || least && b.Depth < a.Depth {
					t.Fatal(l, next, n)
				}
			}
			l = next
		}
		for range 40 {
			l, _ = latency.Step(sample(), l, nil)
		}
		for _, d := range l {
			if d.Depth != most {
				t.Fatal(d)
			}
		}
	}
}
