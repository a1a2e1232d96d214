package reclaim_test

import (
	"fmt"
	"math/rand"
	"testing"

	"groupcontrol/api"
	"groupcontrol/reclaim"
	"groupcontrol/tree"
)

func eq(a, b any) bool { return fmt.Sprint(a) == fmt.Sprint(b) }

// sample has /a (2), /a/b (3), /a/c (4), /d (6), /a/b/e (7).
func sample() api.Tree {
	return api.Tree{Next: 8, Nodes: []api.Node{{ID: 1}, {ID: 2, Parent: 1, Name: "a"}, {ID: 3, Parent: 2, Name: "b"}, {ID: 4, Parent: 2, Name: "c"}, {ID: 6, Parent: 1, Name: "d"}, {ID: 7, Parent: 3, Name: "e"}}}
}

var bad = func() api.Tree { t := sample(); t.Next = 1; return t }()

// parts returns parts: groups with Usage, Protect, Own and Room.
func parts(numbers ...int) []api.Part {
	var l []api.Part
	for i := 0; i < len(numbers); i += 5 {
		l = append(l, api.Part{Group: numbers[i], Usage: numbers[i+1], Protect: numbers[i+2], Own: numbers[i+3], Room: numbers[i+4]})
	}
	return l
}

func takes(numbers ...int) []api.Take {
	var l []api.Take
	for i := 0; i < len(numbers); i += 2 {
		l = append(l, api.Take{Group: numbers[i], Pages: numbers[i+1]})
	}
	return l
}

const max = api.Max

// below is parts of the subtree of /a.
var below = parts(2, 90, 0, 10, max, 3, 50, 20, 30, max, 4, 30, 5, 30, max, 7, 20, 0, 20, max)

func TestP24_1(t *testing.T) {
	leaf := func(n ...int) []api.Part { return parts(append([]int{6}, n...)...) }
	for i, x := range []struct {
		t    api.Tree
		l    []api.Part
		root int
		want bool
	}{
		{sample(), below, 2, true}, {bad, below, 2, false}, {sample(), below, 1, false}, {sample(), below[:3], 2, false}, {sample(), append(below[:4:4], below[3]), 2, false}, {sample(), below[1:], 2, false}, {sample(), below, 3, false}, {sample(), nil, 5, false}, {sample(), nil, 0, false}, {sample(), nil, 6, false}, {sample(), []api.Part{below[0], below[2], below[1], below[3]}, 2, false}, {sample(), []api.Part{below[0], below[1], below[1], below[3]}, 2, false},
		{sample(), leaf(0, 0, 0, 0), 6, true}, {sample(), leaf(api.MaxPages, api.MaxPages, api.MaxPages, max), 6, true}, {sample(), leaf(-1, 0, 0, 0), 6, false}, {sample(), leaf(0, -1, 0, 0), 6, false}, {sample(), leaf(0, 0, -1, 0), 6, false}, {sample(), leaf(0, 0, 0, -1), 6, false}, {sample(), leaf(api.MaxPages+1, 0, 0, 0), 6, false}, {sample(), leaf(0, api.MaxPages+1, 0, 0), 6, false}, {sample(), leaf(0, 0, api.MaxPages+1, 0), 6, false}, {sample(), leaf(0, 0, 0, max+1), 6, false}, {sample(), parts(7, 0, 0, 0, 0), 6, false},
	} {
		if reclaim.Valid(x.t, x.l, x.root) != x.want {
			t.Error(i)
		}
		if !x.want {
			n, e := reclaim.Capacity(x.t, x.l, x.root)
			l, f := reclaim.Round(x.t, x.l, x.root, -1)
			if n != 0 || e != api.ErrInvalid || l != nil || f != api.ErrInvalid {
				t.Error(i, n, e, l, f)
			}
		}
	}
}

func TestP24_2(t *testing.T) {
	for i, x := range []struct {
		l          []api.Part
		root, want int
	}{
		{below, 2, 65}, {parts(6, 50, 20, 40, max), 6, 30}, {parts(6, 50, 20, 29, max), 6, 29}, {parts(6, 50, 20, 40, 7), 6, 7}, {parts(6, 20, 50, 40, max), 6, 0}, {parts(6, 50, 20, 40, 0), 6, 0},
		{parts(3, 90, 20, 10, max, 7, 50, 0, 50, 15), 3, 25}, {parts(3, 90, 70, 10, max, 7, 50, 0, 50, 15), 3, 20}, {parts(3, 90, 20, 10, 24, 7, 50, 0, 50, 15), 3, 24}, {parts(3, 90, 20, 10, max, 7, 50, 48, 50, 15), 3, 12},
	} {
		if n, e := reclaim.Capacity(sample(), x.l, x.root); n != x.want || e != api.OK {
			t.Error(i, n, e)
		}
	}
}

func TestP24_3(t *testing.T) {
	two := api.Tree{Next: 4, Nodes: []api.Node{{ID: 1}, {ID: 2, Parent: 1, Name: "a"}, {ID: 3, Parent: 1, Name: "b"}}}
	example := parts(1, 100, 0, 0, max, 2, 60, 30, 60, max, 3, 40, 0, 40, max)
	mixed := parts(1, 100, 0, 20, max, 2, 60, 30, 60, max, 3, 40, 0, 40, max)
	for i, x := range []struct {
		t       api.Tree
		l       []api.Part
		root, n int
		want    []api.Take
		e       api.Errno
	}{
		{two, example, 1, 35, takes(2, 15, 3, 20), api.OK}, {two, example, 1, 1, takes(2, 1), api.OK}, {two, example, 1, 2, takes(2, 1, 3, 1), api.OK}, {two, example, 1, 100, takes(2, 30, 3, 40), api.OK}, {two, example, 1, 0, nil, api.OK}, {two, example, 1, api.MaxPages, takes(2, 30, 3, 40), api.OK},
		{two, mixed, 1, 9, takes(1, 2, 2, 3, 3, 4), api.OK}, {two, mixed, 1, 10, takes(1, 3, 2, 3, 3, 4), api.OK}, {two, mixed, 1, 11, takes(1, 3, 2, 4, 3, 4), api.OK}, {two, mixed, 1, 90, takes(1, 20, 2, 30, 3, 40), api.OK}, {two, parts(1, 100, 0, 0, max, 2, 60, 60, 60, max, 3, 40, 0, 40, max), 1, 1, takes(3, 1), api.OK},
		{sample(), below, 2, 65, takes(2, 10, 3, 18, 4, 25, 7, 12), api.OK}, {sample(), below, 2, 13, takes(2, 2, 3, 4, 4, 5, 7, 2), api.OK}, {sample(), parts(3, 90, 20, 10, max, 7, 50, 0, 50, 15), 3, 4, takes(3, 2, 7, 2), api.OK},
		{two, example, 1, -1, nil, api.ErrRange}, {two, example, 1, api.MaxPages + 1, nil, api.ErrRange},
	} {
		if l, e := reclaim.Round(x.t, x.l, x.root, x.n); e != x.e || !eq(l, x.want) {
			t.Error(i, l, e)
		}
	}
}

// TestConsequences checks the laws of chapter 24.
func TestConsequences(t *testing.T) {
	r := rand.New(rand.NewSource(26))
	for i := 0; i < 4000; i++ {
		var l []api.Part
		usage := map[int]int{}
		for _, id := range []int{7, 6, 4, 3, 2, 1} {
			own := r.Intn(40) * r.Intn(2)
			n, _ := tree.Find(sample(), id)
			usage[id] += own
			usage[n.Parent] += usage[id]
			p := api.Part{Group: id, Usage: usage[id], Protect: r.Intn(60) * r.Intn(2), Own: own, Room: max}
			if r.Intn(3) == 0 {
				p.Room = r.Intn(30)
			}
			l = append([]api.Part{p}, l...)
		}
		n := r.Intn(100)
		capacity, _ := reclaim.Capacity(sample(), l, 1)
		got, e := reclaim.Round(sample(), l, 1, n)
		taken := map[int]int{}
		last := 0
		for _, x := range got {
			if x.Group <= last || x.Pages < 1 {
				t.Fatal(got)
			}
			last = x.Group
			taken[x.Group] = x.Pages
		}
		for k := len(l) - 1; k >= 0; k-- {
			p := l[k]
			if taken[p.Group] > p.Own {
				t.Fatal(l, got)
			}
			total := 0
			for _, id := range tree.Subtree(sample(), p.Group) {
				total += taken[id]
			}
			if total > 0 && (p.Usage-total < p.Protect || total > p.Room) {
				t.Fatal(l, got)
			}
			if p.Group == 1 && (total != min(n, capacity) || e != api.OK) {
				t.Fatal(l, n, got)
			}
		}
	}
}
