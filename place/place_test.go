package place_test

import (
	"fmt"
	"math/rand"
	"slices"
	"testing"

	"groupcontrol/api"
	"groupcontrol/place"
)

func eq(a, b any) bool { return fmt.Sprint(a) == fmt.Sprint(b) }

type wants = []api.Want

func machine(domains ...int) api.Machine { return api.Machine{Domains: domains} }

func crowd(n int) wants {
	var l wants
	for i := range n {
		l = append(l, api.Want{Task: i + 1, Last: -1})
	}
	return l
}

var two = machine(0, 0)

// as is assignments: processors with their tasks.
type as [][2]int

func (l as) list() []api.Assignment {
	var a []api.Assignment
	for _, x := range l {
		a = append(a, api.Assignment{CPU: x[0], Task: x[1]})
	}
	return a
}

func TestP20_1(t *testing.T) {
	for i, x := range []struct {
		m    api.Machine
		l    wants
		want bool
	}{
		{two, nil, true}, {machine(), nil, false}, {machine(make([]int, 16)...), nil, true}, {machine(make([]int, 17)...), nil, false}, {machine(5, 0), nil, true}, {machine(0, -1), nil, false}, {two, crowd(128), true}, {two, crowd(129), false},
		{two, wants{{Task: 0, Last: -1}}, false}, {two, wants{{Task: 1, Last: -1}}, true}, {two, wants{{Task: 2, Cpus: []int{0}}, {Task: 2, Cpus: []int{1}}}, false}, {two, wants{{Task: 2}, {Task: 1}}, false}, {two, wants{{Task: 1}, {Task: 1 << 40}}, true},
		{two, wants{{Task: 1, Cpus: []int{0, 1}}}, true}, {two, wants{{Task: 1, Cpus: []int{2}}}, false}, {two, wants{{Task: 1, Cpus: []int{1, 0}}}, false}, {two, wants{{Task: 1, Cpus: []int{-1}}}, false}, {two, wants{{Task: 1, Last: 1}}, true}, {two, wants{{Task: 1, Last: 2}}, false}, {two, wants{{Task: 1, Last: -2}}, false},
	} {
		if place.Valid(x.m, x.l) != x.want {
			t.Error(i)
		}
		if !x.want {
			a, ok := place.Match(x.m, x.l)
			if place.Fits(x.m, x.l) || a != nil || ok || place.Greatest(x.m, x.l) != nil || place.Accept(x.m, x.l, api.Want{Task: 1000, Cpus: []int{0}}) {
				t.Error(i, "not valid")
			}
		}
	}
}

func TestP20_2(t *testing.T) {
	m := machine(0, 0, 1)
	a, b, c := api.Want{Task: 3, Cpus: []int{0, 1}, Last: -1}, api.Want{Task: 5, Cpus: []int{0}, Last: -1}, api.Want{Task: 7, Cpus: []int{1}, Last: -1}
	free := api.Want{Task: 4, Cpus: []int{0, 1, 2}, Last: -1}
	for i, x := range []struct {
		l    wants
		want bool
	}{{nil, true}, {wants{a}, true}, {wants{a, b}, true}, {wants{a, b, c}, false}, {wants{b, c}, true}, {wants{a, free, b}, true}, {wants{{Task: 9, Last: -1}}, false}, {wants{a, {Task: 9, Last: -1}}, false}, {wants{{Task: 1, Cpus: []int{0, 1}}, {Task: 2, Cpus: []int{0, 2}}, {Task: 3, Cpus: []int{0}}}, true}, {wants{{Task: 1, Cpus: []int{0, 1, 2}}, {Task: 2, Cpus: []int{0, 1, 2}}, {Task: 3, Cpus: []int{0, 1, 2}}, {Task: 4, Cpus: []int{0, 1, 2}}}, false}} {
		if place.Fits(m, x.l) != x.want {
			t.Error(i)
		}
	}
	for i, x := range []struct {
		l    wants
		w    api.Want
		want bool
	}{
		{wants{a}, b, true}, {wants{a, b}, c, false}, {wants{a, b}, free, true}, {wants{a, c}, b, false}, {nil, c, true}, {wants{b, c}, api.Want{Task: 1, Cpus: []int{2}, Last: -1}, true}, {wants{b, c}, api.Want{Task: 5, Cpus: []int{2}, Last: -1}, false}, {wants{b, c}, api.Want{Task: 7, Cpus: []int{2}, Last: -1}, false}, {wants{b, c}, api.Want{Task: 9, Last: -1}, false}, {wants{b}, api.Want{Task: 9, Cpus: []int{3}, Last: -1}, false}, {wants{b}, api.Want{Task: 9, Cpus: []int{2}, Last: 3}, false}, {wants{b}, api.Want{Task: 0, Cpus: []int{2}, Last: -1}, false}, {wants{c, b}, api.Want{Task: 9, Cpus: []int{2}, Last: -1}, false},
	} {
		before := fmt.Sprint(x.l, x.w)
		if place.Accept(m, x.l, x.w) != x.want || fmt.Sprint(x.l, x.w) != before {
			t.Error(i)
		}
	}
	spare := append(make(wants, 0, 4), b, c)
	if !place.Accept(m, spare, free) || spare[1].Task != 7 || spare[:3][2].Task != 0 {
		t.Error("the argument was changed", spare)
	}
	if place.Accept(machine(0, -1), nil, a) || !place.Accept(two, nil, a) {
		t.Error("machine")
	}
}

func TestP20_3(t *testing.T) {
	four := machine(0, 1, 0, 1)
	all := []int{0, 1, 2, 3}
	for i, x := range []struct {
		m    api.Machine
		l    wants
		want as
		ok   bool
	}{
		{two, nil, nil, true}, {two, wants{{Task: 1, Cpus: []int{0, 1}, Last: -1}, {Task: 2, Cpus: []int{0}, Last: -1}}, as{{0, 2}, {1, 1}}, true}, {two, wants{{Task: 1, Cpus: []int{0}, Last: -1}, {Task: 2, Cpus: []int{0}, Last: -1}}, nil, false}, {two, wants{{Task: 1, Last: -1}}, nil, false},
		{four, wants{{Task: 4, Cpus: all, Last: -1}, {Task: 5, Cpus: all, Last: -1}}, as{{0, 4}, {1, 5}}, true}, {four, wants{{Task: 4, Cpus: all, Last: 3}, {Task: 5, Cpus: all, Last: 2}}, as{{2, 5}, {3, 4}}, true}, {four, wants{{Task: 4, Cpus: all, Last: 3}, {Task: 5, Cpus: all, Last: 3}}, as{{1, 5}, {3, 4}}, true}, {four, wants{{Task: 4, Cpus: all, Last: 2}, {Task: 5, Cpus: all, Last: 2}, {Task: 6, Cpus: all, Last: 2}}, as{{0, 5}, {1, 6}, {2, 4}}, true},
		{four, wants{{Task: 4, Cpus: []int{0, 1, 2}, Last: 3}}, as{{1, 4}}, true}, {four, wants{{Task: 4, Cpus: []int{0, 2}, Last: 3}}, as{{0, 4}}, true}, {four, wants{{Task: 4, Cpus: all, Last: 3}, {Task: 5, Cpus: []int{3}, Last: -1}}, as{{1, 4}, {3, 5}}, true}, {four, wants{{Task: 4, Cpus: all, Last: 3}, {Task: 5, Cpus: []int{3}, Last: -1}, {Task: 6, Cpus: []int{1}, Last: -1}}, as{{0, 4}, {1, 6}, {3, 5}}, true}, {four, wants{{Task: 4, Cpus: []int{1}, Last: 1}, {Task: 5, Cpus: all, Last: 1}, {Task: 6, Cpus: []int{0, 3}, Last: 0}, {Task: 7, Cpus: []int{3}, Last: 3}}, as{{0, 6}, {1, 4}, {2, 5}, {3, 7}}, true},
	} {
		before := fmt.Sprint(x.m, x.l)
		if a, ok := place.Match(x.m, x.l); !eq(a, x.want.list()) || ok != x.ok || fmt.Sprint(x.m, x.l) != before {
			t.Error(i, a, ok)
		}
	}
}

func TestP20_4(t *testing.T) {
	m := machine(0, 0, 1)
	l := wants{{Task: 1, Cpus: []int{0}, Last: -1}, {Task: 2, Cpus: []int{0}, Last: -1}, {Task: 3, Cpus: []int{0, 1}, Last: -1}, {Task: 4, Last: -1}, {Task: 5, Cpus: []int{1}, Last: -1}, {Task: 6, Cpus: []int{1, 2}, Last: -1}}
	if got := place.Greatest(m, l); !eq(got, []int{1, 3, 6}) {
		t.Error(got)
	}
	if got := place.Greatest(m, nil); len(got) != 0 {
		t.Error(got)
	}
	odd := wants{{Task: 7, Last: 2}, {Task: 5, Last: -1}, {Task: 7, Last: 3}, {Task: 3, Last: 0}, {Task: 8, Last: 3}}
	for i, x := range []struct {
		a    as
		want int
	}{{nil, 0}, {as{{2, 7}}, 0}, {as{{3, 7}}, 1}, {as{{0, 5}, {1, 9}, {0, 3}}, 0}, {as{{0, 7}, {1, 3}, {4, 8}, {1, 7}, {5, 5}}, 4}, {as{{-1, 7}}, 1}} {
		if n := place.Moves(odd, x.a.list()); n != x.want {
			t.Error(i, n)
		}
	}
}

// most returns by trial how many tasks can run at the same time.
func most(l wants, used int) int {
	if len(l) == 0 {
		return 0
	}
	best := most(l[1:], used)
	for _, cpu := range l[0].Cpus {
		if used>>cpu&1 == 0 {
			best = max(best, 1+most(l[1:], used|1<<cpu))
		}
	}
	return best
}

// TestConsequences compares with a search through all placements.
func TestConsequences(t *testing.T) {
	r := rand.New(rand.NewSource(21))
	matched := 0
	for i := 0; i < 4000; i++ {
		n := 1 + r.Intn(5)
		m := machine()
		for range n {
			m.Domains = append(m.Domains, r.Intn(3))
		}
		var l wants
		for k := range r.Intn(6) {
			w := api.Want{Task: k*2 + 1, Last: r.Intn(n+1) - 1}
			for cpu := range n {
				if r.Intn(2) == 0 {
					w.Cpus = append(w.Cpus, cpu)
				}
			}
			l = append(l, w)
		}
		if place.Fits(m, l) != (most(l, 0) == len(l)) || len(place.Greatest(m, l)) != most(l, 0) {
			t.Fatal(m, l)
		}
		a, ok := place.Match(m, l)
		if ok != place.Fits(m, l) || ok && len(a) != len(l) {
			t.Fatal(m, l, a)
		}
		stay := true
		for k, w := range l {
			stay = stay && w.Last >= 0 && slices.Contains(w.Cpus, w.Last) && !slices.ContainsFunc(l[:k], func(v api.Want) bool { return v.Last == w.Last })
		}
		if stay && place.Moves(l, a) != 0 {
			t.Fatal(l, a)
		}
		used := 0
		for k, x := range a {
			w := l[slices.IndexFunc(l, func(w api.Want) bool { return w.Task == x.Task })]
			if k > 0 && x.CPU <= a[k-1].CPU || !slices.Contains(w.Cpus, x.CPU) {
				t.Fatal(l, a)
			}
			matched++
		}
		// Each task gets the first processor that it likes with which the others still fit.
		for k, w := range l {
			if !ok {
				break
			}
			x := a[slices.IndexFunc(a, func(x api.Assignment) bool { return x.Task == w.Task })]
			for _, cpu := range liked(m, w) {
				if cpu == x.CPU {
					break
				}
				if used>>cpu&1 == 0 && most(l[k+1:], used|1<<cpu) == len(l)-k-1 {
					t.Fatal(l, a, w, cpu)
				}
			}
			used |= 1 << x.CPU
		}
	}
	if matched < 1000 {
		t.Error(matched)
	}
}

func liked(m api.Machine, w api.Want) []int {
	var first, near, far []int
	for _, cpu := range w.Cpus {
		switch {
		case cpu == w.Last:
			first = append(first, cpu)
		case w.Last >= 0 && m.Domains[cpu] == m.Domains[w.Last]:
			near = append(near, cpu)
		default:
			far = append(far, cpu)
		}
	}
	return slices.Concat(first, near, far)
}
