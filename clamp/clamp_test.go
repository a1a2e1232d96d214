package clamp_test

import (
	"fmt"
	"math"
	"math/rand"
	"slices"
	"testing"

	"groupcontrol/api"
	"groupcontrol/clamp"
)

func eq(a, b any) bool { return fmt.Sprint(a) == fmt.Sprint(b) }

// sample has /a (2), /a/b (3), /a/b/c (4), /d (5).
func sample() api.Tree {
	return api.Tree{Next: 6, Nodes: []api.Node{{ID: 1}, {ID: 2, Parent: 1, Name: "a"}, {ID: 3, Parent: 2, Name: "b"}, {ID: 4, Parent: 3, Name: "c"}, {ID: 5, Parent: 1, Name: "d"}}}
}

func clamps() []api.Clamp {
	return []api.Clamp{{Group: 1, Min: 9500, Max: 9000}, {Group: 2, Min: 100, Max: 5000}, {Group: 3, Min: 8000, Max: 10000}, {Group: 4, Min: 3000, Max: 4000}, {Group: 5, Min: 2000, Max: 1000}}
}

func with(change func([]api.Clamp)) []api.Clamp {
	l := clamps()
	change(l)
	return l
}

func TestP19_1(t *testing.T) {
	bad := sample()
	bad.Next = 2
	for i, x := range []struct {
		t    api.Tree
		l    []api.Clamp
		want bool
	}{
		{sample(), clamps(), true}, {bad, clamps(), false}, {sample(), clamps()[:4], false}, {sample(), nil, false}, {sample(), append(clamps(), api.Clamp{Group: 6}), false}, {sample(), with(func(l []api.Clamp) { l[4].Group = 4 }), false}, {sample(), with(func(l []api.Clamp) { l[3], l[4] = l[4], l[3] }), false},
		{sample(), with(func(l []api.Clamp) { l[3].Min = -1 }), false}, {sample(), with(func(l []api.Clamp) { l[3].Min = 10001 }), false}, {sample(), with(func(l []api.Clamp) { l[3].Max = -1 }), false}, {sample(), with(func(l []api.Clamp) { l[3].Max = 10001 }), false}, {sample(), with(func(l []api.Clamp) { l[3].Min, l[3].Max = 10000, 0 }), true}, {sample(), with(func(l []api.Clamp) { l[3].Min, l[3].Max = 0, 10000 }), true},
	} {
		if clamp.Valid(x.t, x.l) != x.want {
			t.Error(i)
		}
		if x.want {
			continue
		}
		if a, b := clamp.Effective(x.t, x.l, 1); a != 0 || b != 0 || clamp.Apply(x.t, x.l, 1, 500) != 0 || clamp.Capacity(x.t, x.l, []int{1}, []int{500}) != 0 || clamp.Violations(x.t, x.l) != nil {
			t.Error(i, "not valid")
		}
	}
}

func TestP19_2(t *testing.T) {
	for id, want := range map[int][2]int{1: {9000, 9000}, 2: {100, 5000}, 3: {5000, 5000}, 4: {3000, 4000}, 5: {1000, 1000}, 6: {0, 0}, 0: {0, 0}, -1: {0, 0}} {
		if a, b := clamp.Effective(sample(), clamps(), id); a != want[0] || b != want[1] {
			t.Error(id, a, b)
		}
	}
	low := with(func(l []api.Clamp) { l[0].Max = 300; l[3].Max = 200 })
	for id, want := range map[int][2]int{1: {300, 300}, 2: {100, 300}, 3: {300, 300}, 4: {200, 200}, 5: {300, 300}} {
		if a, b := clamp.Effective(sample(), low, id); a != want[0] || b != want[1] {
			t.Error(id, a, b)
		}
	}
}

func TestP19_3(t *testing.T) {
	for i, x := range []struct{ group, use, want int }{
		{2, 50, 100}, {2, 100, 100}, {2, 3000, 3000}, {2, 5000, 5000}, {2, 5001, 5000}, {2, math.MaxInt, 5000}, {2, math.MinInt, 100}, {3, 0, 5000}, {4, 3500, 3500}, {5, 1500, 1000}, {6, 500, 0}, {0, 500, 0},
	} {
		if n := clamp.Apply(sample(), clamps(), x.group, x.use); n != x.want {
			t.Error(i, n)
		}
	}
	free := with(func(l []api.Clamp) {
		for i := range l {
			l[i].Min, l[i].Max = 0, 10000
		}
	})
	if clamp.Apply(sample(), free, 4, -5) != 0 || clamp.Apply(sample(), free, 4, 10001) != 10000 {
		t.Error("range")
	}
	for i, x := range []struct {
		groups, uses []int
		want         int
	}{
		{[]int{2, 4}, []int{3200, 3100}, 3200}, {[]int{4, 2}, []int{3900, 3100}, 3900}, {[]int{2, 5}, []int{0, 9000}, 1000}, {[]int{6, 2}, []int{9000, 200}, 200}, {[]int{6}, []int{9000}, 0}, {nil, nil, 0}, {[]int{2}, nil, 0}, {[]int{2, 2}, []int{5000}, 0}, {nil, []int{5000}, 0}, {[]int{2}, []int{5000, 1}, 0}, {[]int{2, 2}, []int{300, 400}, 400},
	} {
		if n := clamp.Capacity(sample(), clamps(), x.groups, x.uses); n != x.want {
			t.Error(i, n)
		}
	}
	l := clamps()
	if v := clamp.Violations(sample(), l); !eq(v, []int{1, 3, 5}) || !eq(l, clamps()) {
		t.Error(v)
	}
	if v := clamp.Violations(sample(), free); len(v) != 0 {
		t.Error(v)
	}
}

// TestConsequences checks the laws of chapter 19.
func TestConsequences(t *testing.T) {
	r := rand.New(rand.NewSource(19))
	for i := 0; i < 3000; i++ {
		l := clamps()
		for k := range l {
			l[k].Min, l[k].Max = r.Intn(10001), r.Intn(10001)
		}
		v := clamp.Violations(sample(), l)
		for k, n := range sample().Nodes {
			least, greatest := clamp.Effective(sample(), l, n.ID)
			if least > greatest || greatest > l[k].Max || slices.Contains(v, n.ID) != (l[k].Min > least) {
				t.Fatal(l, n)
			}
			if _, above := clamp.Effective(sample(), l, n.Parent); n.Parent > 0 && (greatest != min(above, l[k].Max) || least != min(l[k].Min, greatest)) {
				t.Fatal(l, n)
			}
			a, b := r.Intn(10001), r.Intn(10001)
			x, y := clamp.Apply(sample(), l, n.ID, a), clamp.Apply(sample(), l, n.ID, b)
			if a <= b && x > y || clamp.Apply(sample(), l, n.ID, x) != x || clamp.Capacity(sample(), l, []int{n.ID, n.ID}, []int{a, b}) != max(x, y) {
				t.Fatal(l, n, a, b)
			}
		}
	}
}
