package kill_test

import (
	"fmt"
	"math"
	"math/rand"
	"slices"
	"testing"

	"groupcontrol/api"
	"groupcontrol/kill"
	"groupcontrol/tree"
)

func eq(a, b any) bool { return fmt.Sprint(a) == fmt.Sprint(b) }

// sample has /a (2), /a/b (3), /a/b/c (4), /d (6).
func sample() api.Tree {
	return api.Tree{Next: 7, Nodes: []api.Node{{ID: 1}, {ID: 2, Parent: 1, Name: "a"}, {ID: 3, Parent: 2, Name: "b"}, {ID: 4, Parent: 3, Name: "c"}, {ID: 6, Parent: 1, Name: "d"}}}
}

var bad = func() api.Tree { t := sample(); t.Next = 1; return t }()

type candidates = []api.Candidate

// list returns candidates: processes with their groups, pages and adjustments.
func list(numbers ...int) candidates {
	var l candidates
	for i := 0; i < len(numbers); i += 4 {
		l = append(l, api.Candidate{Process: numbers[i], Group: numbers[i+1], Pages: numbers[i+2], Adjust: numbers[i+3]})
	}
	return l
}

func crowd(n int) candidates {
	var l candidates
	for i := range n {
		l = append(l, api.Candidate{Process: i + 1, Group: 1})
	}
	return l
}

const most = api.MaxPages

func TestP29_1(t *testing.T) {
	for i, x := range []struct {
		t    api.Tree
		l    candidates
		want bool
	}{
		{sample(), nil, true}, {bad, nil, false}, {sample(), crowd(128), true}, {sample(), crowd(129), false}, {sample(), list(0, 1, 1, 0), false}, {sample(), list(1, 1, 1, 0), true}, {sample(), list(5, 1, 1, 0, 5, 1, 1, 0), false}, {sample(), list(5, 1, 1, 0, 4, 1, 1, 0), false}, {sample(), list(5, 5, 1, 0), false}, {sample(), list(5, 0, 1, 0), false}, {sample(), list(5, 6, -1, 0), false}, {sample(), list(5, 6, most, 1000), true}, {sample(), list(5, 6, most+1, 0), false}, {sample(), list(5, 6, 0, -1000), true}, {sample(), list(5, 6, 0, -1001), false}, {sample(), list(5, 6, 0, 1001), false}, {bad, list(5, 6, 0, 0), false},
	} {
		if kill.Valid(x.t, x.l) != x.want {
			t.Error(i)
		}
	}
}

func TestP29_2(t *testing.T) {
	for i, x := range []struct {
		pages, adjust, total int
		want                 int
		e                    api.Errno
	}{
		{100, 0, 1000, 100, api.OK}, {80, 100, 1000, 180, api.OK}, {80, -100, 1000, -20, api.OK}, {5, 1, 999, 5, api.OK}, {5, 1, 1000, 6, api.OK}, {5, -1, 999, 4, api.OK}, {5, -1, 1000, 4, api.OK}, {5, -1, 1001, 3, api.OK}, {5, -1, 0, 5, api.OK}, {5, -1, 1, 4, api.OK}, {0, 1000, most, most, api.OK}, {most, -1000, most, 0, api.OK}, {0, 7, 12345, 86, api.OK},
		{-1, 0, -1, 0, api.ErrInvalid}, {most + 1, 0, 5, 0, api.ErrInvalid}, {5, -1001, 5, 0, api.ErrInvalid}, {5, 1001, 5, 0, api.ErrInvalid}, {5, 0, -1, 0, api.ErrRange}, {5, 0, most + 1, 0, api.ErrRange}, {5, math.MaxInt, math.MaxInt, 0, api.ErrInvalid},
	} {
		if n, e := kill.Score(api.Candidate{Process: -5, Group: 99, Pages: x.pages, Adjust: x.adjust}, x.total); n != x.want || e != x.e {
			t.Error(i, n, e)
		}
	}
}

func TestP29_3(t *testing.T) {
	l := list(3, 4, 50, 0, 5, 3, 60, 0, 7, 2, 60, 0, 8, 6, 90, 0, 9, 6, 95, -1000, 11, 1, 10, 85)
	for i, x := range []struct {
		t         api.Tree
		l         candidates
		at, total int
		want      int
		e         api.Errno
	}{
		{sample(), l, 1, 1000, 11, api.OK}, {sample(), l, 1, 900, 8, api.OK}, {sample(), l, 1, 942, 8, api.OK}, {sample(), l, 1, 955, 11, api.OK}, {sample(), l, 2, 1000, 5, api.OK}, {sample(), l, 3, 1000, 5, api.OK}, {sample(), l, 4, 1000, 3, api.OK}, {sample(), l, 6, 1000, 8, api.OK}, {sample(), list(7, 1, 100, 0, 8, 1, 80, 100), 1, 1000, 8, api.OK}, {sample(), list(7, 1, 0, -999, 8, 1, 0, -998), 1, most, 8, api.OK},
		{bad, l, 9, -1, 0, api.ErrInvalid}, {sample(), list(0, 1, 1, 0), 9, -1, 0, api.ErrInvalid}, {sample(), l, 5, -1, 0, api.ErrUnknown}, {sample(), nil, 1, -1, 0, api.ErrRange}, {sample(), nil, 1, most + 1, 0, api.ErrRange}, {sample(), nil, 1, 0, 0, api.ErrNone}, {sample(), list(9, 6, 95, -1000), 6, 100, 0, api.ErrNone}, {sample(), l[3:5], 2, 100, 0, api.ErrNone},
	} {
		before := fmt.Sprint(x.l)
		p, e := kill.Victim(x.t, x.l, x.at, x.total)
		k, f := kill.Decide(x.t, x.l, nil, x.at, x.total)
		var want api.Killing
		if x.e == api.OK {
			want = api.Killing{Victim: x.want, Processes: []int{x.want}}
		}
		if p != x.want || e != x.e || f != x.e || !eq(k, want) || fmt.Sprint(x.l) != before {
			t.Error(i, p, e, k, f)
		}
	}
}

func TestP29_4(t *testing.T) {
	l := list(3, 4, 90, 0, 5, 3, 60, 0, 6, 3, 5, -1000, 7, 2, 60, 0, 8, 6, 20, 0)
	for i, x := range []struct {
		together []int
		at       int
		want     api.Killing
	}{
		{[]int{4}, 1, api.Killing{Victim: 3, Processes: []int{3}, Group: 4}}, {[]int{3}, 1, api.Killing{Victim: 3, Processes: []int{3, 5}, Group: 3}}, {[]int{3, 4, 3, 99, -1}, 1, api.Killing{Victim: 3, Processes: []int{3, 5}, Group: 3}}, {[]int{4, 2}, 1, api.Killing{Victim: 3, Processes: []int{3, 5, 7}, Group: 2}}, {[]int{2, 4}, 1, api.Killing{Victim: 3, Processes: []int{3, 5, 7}, Group: 2}}, {[]int{1, 2}, 1, api.Killing{Victim: 3, Processes: []int{3, 5, 7, 8}, Group: 1}}, {[]int{2, 1}, 3, api.Killing{Victim: 3, Processes: []int{3}}}, {[]int{3, 2, 1}, 3, api.Killing{Victim: 3, Processes: []int{3, 5}, Group: 3}}, {[]int{6}, 1, api.Killing{Victim: 3, Processes: []int{3}}}, {[]int{6}, 6, api.Killing{Victim: 8, Processes: []int{8}, Group: 6}}, {nil, 6, api.Killing{Victim: 8, Processes: []int{8}}},
	} {
		if k, e := kill.Decide(sample(), l, x.together, x.at, 100); e != api.OK || !eq(k, x.want) {
			t.Error(i, k, e)
		}
	}
}

func TestP29_5(t *testing.T) {
	l := list(3, 4, 50, 0, 5, 3, 60, 0, 7, 99, -7, 0, 3, 4, 1000, 0)
	for i, x := range []struct {
		processes []int
		want      int
	}{{nil, 0}, {[]int{5}, 60}, {[]int{5, 5, 5}, 60}, {[]int{7, 5}, 53}, {[]int{3}, 1050}, {[]int{4, 9}, 0}} {
		if n := kill.Freed(l, x.processes); n != x.want {
			t.Error(i, n)
		}
	}
}

// TestConsequences checks the laws of chapter 29.
func TestConsequences(t *testing.T) {
	r := rand.New(rand.NewSource(31))
	for i := 0; i < 3000; i++ {
		var l candidates
		for p := range r.Intn(8) {
			adjust := 0
			switch r.Intn(4) {
			case 0:
				adjust = r.Intn(2001) - 1000
			case 1:
				adjust = -1000
			}
			l = append(l, api.Candidate{Process: 2*p + 1, Group: []int{1, 2, 3, 4, 6}[r.Intn(5)], Pages: r.Intn(50), Adjust: adjust})
		}
		at, total := []int{1, 2, 3, 6}[r.Intn(4)], r.Intn(300)
		together := []int{1 + r.Intn(6), 1 + r.Intn(6)}
		k, e := kill.Decide(sample(), l, together, at, total)
		if e == api.ErrNone {
			continue
		}
		best := l[slices.IndexFunc(l, func(c api.Candidate) bool { return c.Process == k.Victim })]
		for _, c := range l {
			inside := slices.Contains(tree.Subtree(sample(), at), c.Group)
			if slices.Contains(k.Processes, c.Process) && (!inside || c.Adjust == -1000) {
				t.Fatal(l, k)
			}
			a, _ := kill.Score(c, total)
			b, _ := kill.Score(best, total)
			if inside && c.Adjust != -1000 && (a > b || a == b && c.Process < k.Victim) {
				t.Fatal(l, k)
			}
		}
		if e != api.OK || kill.Freed(l, k.Processes) < best.Pages || !slices.IsSorted(k.Processes) || !slices.Contains(k.Processes, k.Victim) {
			t.Fatal(l, k)
		}
	}
}
