package nodes_test

import (
	"fmt"
	"math"
	"math/rand"
	"testing"

	"groupcontrol/api"
	"groupcontrol/nodes"
)

func eq(a, b any) bool { return fmt.Sprint(a) == fmt.Sprint(b) }

const most = api.MaxPages

// demands returns demands: groups with their pages.
func demands(numbers ...int) []api.Charge {
	var l []api.Charge
	for i := 0; i < len(numbers); i += 2 {
		l = append(l, api.Charge{Group: numbers[i], Own: numbers[i+1]})
	}
	return l
}

// set returns the nodes that a group may use.
func set(group int, nodes ...int) api.NodeSet { return api.NodeSet{Group: group, Nodes: nodes} }

type setList = []api.NodeSet

func spots(numbers ...int) []api.Spot {
	var l []api.Spot
	for i := 0; i < len(numbers); i += 3 {
		l = append(l, api.Spot{Group: numbers[i], Node: numbers[i+1], Pages: numbers[i+2]})
	}
	return l
}

func crowd(n int) ([]api.Charge, setList) {
	var d []api.Charge
	var a setList
	for i := range n {
		d = append(d, api.Charge{Group: i + 1, Own: 1})
		a = append(a, set(i+1, 0))
	}
	return d, a
}

func TestP28_1(t *testing.T) {
	d64, a64 := crowd(64)
	d65, a65 := crowd(65)
	for i, x := range []struct {
		d        []api.Charge
		a        setList
		capacity []int
		want     bool
	}{
		{nil, nil, []int{0}, true}, {nil, nil, nil, false}, {nil, nil, make([]int, 8), true}, {nil, nil, make([]int, 9), false}, {nil, nil, []int{most}, true}, {nil, nil, []int{most + 1}, false}, {nil, nil, []int{0, -1}, false}, {d64, a64, []int{64}, true}, {d65, a65, []int{65}, false},
		{demands(1, 1), nil, []int{5}, false}, {nil, setList{set(1, 0)}, []int{5}, false}, {demands(1, 1), setList{set(1, 0)}, []int{5}, true}, {demands(1, 1), setList{set(2, 0)}, []int{5}, false}, {demands(0, 1), setList{set(0, 0)}, []int{5}, false}, {demands(1, 0), setList{set(1, 0)}, []int{5}, false}, {demands(1, most), setList{set(1, 0)}, []int{5}, true}, {demands(1, most+1), setList{set(1, 0)}, []int{5}, false}, {demands(2, 1, 1, 1), setList{set(2, 0), set(1, 0)}, []int{5}, false}, {demands(2, 1, 2, 1), setList{set(2, 0), set(2, 0)}, []int{5}, false}, {demands(math.MaxInt, 1), setList{set(math.MaxInt, 0)}, []int{5}, true},
		{demands(1, 1), setList{set(1)}, []int{5}, false}, {demands(1, 1), setList{set(1, 0, 1)}, []int{5, 5}, true}, {demands(1, 1), setList{set(1, 1, 0)}, []int{5, 5}, false}, {demands(1, 1), setList{set(1, 0, 0)}, []int{5, 5}, false}, {demands(1, 1), setList{set(1, 2)}, []int{5, 5}, false}, {demands(1, 1), setList{set(1, -1)}, []int{5, 5}, false},
	} {
		if nodes.Valid(x.d, x.a, x.capacity) != x.want {
			t.Error(i)
		}
		if x.want {
			continue
		}
		if l, s, e := nodes.Place(x.d, x.a, x.capacity); l != nil || s != nil || e != api.ErrInvalid || nodes.Check(x.d, x.a, x.capacity, nil) || nodes.Refuses(x.d, x.a, x.capacity, []int{0}) {
			t.Error(i, l, s, e)
		}
	}
}

// TestP28_2: which placement, or which set, is returned is not specified, but it has to be one.
func TestP28_2(t *testing.T) {
	d, a := demands(2, 6, 3, 5), setList{set(2, 0, 1), set(3, 0)}
	for i, x := range []struct {
		d        []api.Charge
		a        setList
		capacity []int
		e        api.Errno
	}{
		{nil, nil, []int{0}, api.OK}, {d, a, []int{6, 5}, api.OK}, {d, a, []int{4, 9}, api.ErrMemory}, {d, a, []int{5, 5}, api.ErrMemory}, {d, a, []int{5, 6}, api.OK},
		{demands(1, 1, 2, 1, 3, 1), setList{set(1, 0, 1), set(2, 1, 2), set(3, 1)}, []int{1, 1, 1}, api.OK}, {demands(1, 1, 2, 1, 3, 1, 4, 1), setList{set(1, 0, 1), set(2, 0, 2), set(3, 0), set(4, 1)}, []int{1, 1, 1}, api.ErrMemory}, {demands(4, most), setList{set(4, 0, 1)}, []int{most, 0}, api.OK},
	} {
		before := fmt.Sprint(x.d, x.a, x.capacity)
		l, s, e := nodes.Place(x.d, x.a, x.capacity)
		if e != x.e || fmt.Sprint(x.d, x.a, x.capacity) != before {
			t.Error(i, l, s, e)
		}
		if e == api.OK && (!nodes.Check(x.d, x.a, x.capacity, l) || len(s) > 0) || e != api.OK && (!nodes.Refuses(x.d, x.a, x.capacity, s) || len(l) > 0) {
			t.Error(i, l, s, e)
		}
	}
	if l, _, _ := nodes.Place(d, a, []int{6, 5}); !eq(l, spots(2, 0, 1, 2, 1, 5, 3, 0, 5)) {
		t.Error("there is no other placement", l)
	}
	if _, s, _ := nodes.Place(d, a, []int{4, 9}); !eq(s, []int{0}) {
		t.Error("no other set refuses", s)
	}
}

func TestP28_3(t *testing.T) {
	d, a, capacity := demands(2, 6, 3, 5), setList{set(2, 0, 1), set(3, 0)}, []int{6, 5}
	for i, x := range []struct {
		l    []api.Spot
		want bool
	}{
		{spots(2, 0, 1, 2, 1, 5, 3, 0, 5), true}, {spots(2, 1, 5, 2, 0, 1, 3, 0, 5), false}, {spots(3, 0, 5, 2, 0, 1, 2, 1, 5), false}, {spots(2, 0, 1, 2, 1, 4, 3, 0, 5), false}, {spots(2, 0, 1, 2, 1, 6, 3, 0, 5), false}, {spots(2, 0, 2, 2, 1, 4, 3, 0, 5), false}, {spots(2, 0, 0, 2, 1, 6, 3, 0, 5), false}, {spots(2, 0, 1, 2, 1, 5), false}, {nil, false}, {spots(2, 0, 1, 2, 1, 5, 3, 1, 5), false}, {spots(2, 0, 1, 2, 1, 5, 3, 0, 5, 4, 0, 1), false}, {spots(2, 0, 1, 2, 1, 5, 3, 0, 2, 3, 0, 3), false}, {spots(2, 0, -1, 2, 1, 7, 3, 0, 5), false}, {spots(2, 0, math.MaxInt, 2, 1, math.MaxInt, 3, 0, 5), false}, {spots(2, 0, 1, 2, 1, 5, 3, 0, 4, 3, 1, 1), false},
	} {
		if nodes.Check(d, a, capacity, x.l) != x.want {
			t.Error(i)
		}
	}
	if !nodes.Check(nil, nil, []int{0}, nil) || nodes.Check(nil, nil, []int{5}, spots(1, 0, 1)) || nodes.Check(d, a, []int{6, 4}, spots(2, 0, 1, 2, 1, 5, 3, 0, 5)) {
		t.Error("placements")
	}
	wide := []int{9, 9}
	for i, x := range []struct {
		l    []api.Spot
		want bool
	}{
		{spots(2, 0, 6, 3, 0, 3), false}, {spots(2, 1, 6, 3, 0, 5), true}, {spots(2, 0, 6, 3, 1, 5), false}, {spots(2, 1, 6, 3, 0, 5, 4, 1, 1), false}, {spots(2, 0, 0, 2, 1, 6, 3, 0, 5), false}, {spots(2, 0, -1, 2, 1, 7, 3, 0, 5), false},
	} {
		if nodes.Check(d, a, wide, x.l) != x.want {
			t.Error(i)
		}
	}
	// Numbers whose sums overflow are no placement.
	var huge []api.Spot
	for group := 1; group <= 4; group++ {
		for node := range 4 {
			huge = append(huge, api.Spot{Group: group, Node: node, Pages: 1 << 62})
		}
		huge[len(huge)-4].Pages++
	}
	if nodes.Check(demands(1, 1, 2, 1, 3, 1, 4, 1), setList{set(1, 0, 1, 2, 3), set(2, 0, 1, 2, 3), set(3, 0, 1, 2, 3), set(4, 0, 1, 2, 3)}, []int{4, 0, 0, 0}, huge) {
		t.Error("overflow")
	}
	for i, x := range []struct {
		capacity, nodes []int
		want            bool
	}{
		{[]int{4, 9}, []int{0}, true}, {[]int{4, 9}, []int{1}, false}, {[]int{4, 9}, []int{0, 1}, false}, {[]int{4, 9}, nil, false}, {[]int{5, 9}, []int{0}, false}, {[]int{5, 5}, []int{0, 1}, true}, {[]int{5, 6}, []int{0, 1}, false}, {[]int{4, 9}, []int{1, 0}, false}, {[]int{0, 0}, []int{0, 0}, false}, {[]int{0, 0}, []int{0, 2}, false}, {[]int{0, 0}, []int{-1, 0}, false}, {[]int{0, 0}, []int{1}, false},
	} {
		if nodes.Refuses(d, a, x.capacity, x.nodes) != x.want {
			t.Error(i)
		}
	}
}

func TestP28_4(t *testing.T) {
	l := spots(3, 1, 5, 2, 1, 4, 3, 0, 2, 3, 1, 9)
	for node, want := range map[int]int{0: 2, 1: 18, 2: 0, -1: 0} {
		if n := nodes.Load(l, node); n != want {
			t.Error(node, n)
		}
	}
	for i, x := range []struct {
		l, m []api.Spot
		want int
	}{{l, nil, 0}, {nil, l, 20}, {l, spots(3, 1, 7), 2}, {l, spots(3, 1, 4), 0}, {l, spots(2, 1, 4, 2, 0, 3, 3, 0, 3), 4}, {l, spots(3, 1, 6, 3, 1, 7), 3}, {nil, nil, 0}} {
		if n := nodes.Moves(x.l, x.m); n != x.want {
			t.Error(i, n)
		}
	}
}

// TestConsequences: there is a placement exactly if no set of nodes refuses.
func TestConsequences(t *testing.T) {
	r := rand.New(rand.NewSource(30))
	placed, refused := 0, 0
	for i := 0; i < 4000; i++ {
		n := 1 + r.Intn(4)
		var capacity []int
		for range n {
			capacity = append(capacity, r.Intn(20))
		}
		var d []api.Charge
		var a setList
		for k := range r.Intn(6) {
			s := set(k*3 + 1)
			for node := range n {
				if r.Intn(2) == 0 {
					s.Nodes = append(s.Nodes, node)
				}
			}
			if len(s.Nodes) > 0 {
				a = append(a, s)
				d = append(d, api.Charge{Group: s.Group, Own: 1 + r.Intn(12)})
			}
		}
		any := false
		for mask := range 1 << n {
			var some []int
			for node := range n {
				if mask>>node&1 == 1 {
					some = append(some, node)
				}
			}
			any = any || nodes.Refuses(d, a, capacity, some)
		}
		l, s, e := nodes.Place(d, a, capacity)
		again, s2, _ := nodes.Place(d, a, capacity)
		switch {
		case any && (e != api.ErrMemory || l != nil || !nodes.Refuses(d, a, capacity, s)), !any && (e != api.OK || s != nil || !nodes.Check(d, a, capacity, l)):
			t.Fatal(d, a, capacity, l, s, e)
		case !eq(l, again) || !eq(s, s2) || nodes.Moves(l, l) != 0:
			t.Fatal(l, again)
		case any:
			refused++
		default:
			placed++
		}
	}
	if placed < 500 || refused < 500 {
		t.Error(placed, refused)
	}
}
