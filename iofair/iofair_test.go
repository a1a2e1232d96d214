package iofair_test

import (
	"fmt"
	"math"
	"math/rand"
	"slices"
	"testing"

	"groupcontrol/api"
	"groupcontrol/iofair"
	"groupcontrol/tree"
)

func eq(a, b any) bool { return fmt.Sprint(a) == fmt.Sprint(b) }

// sample has /a (2), /b (3), /a/c (4), /a/d (6), /a/c/e (7).
func sample() api.Tree {
	return api.Tree{Next: 8, Nodes: []api.Node{{ID: 1}, {ID: 2, Parent: 1, Name: "a"}, {ID: 3, Parent: 1, Name: "b"}, {ID: 4, Parent: 2, Name: "c"}, {ID: 6, Parent: 2, Name: "d"}, {ID: 7, Parent: 4, Name: "e"}}}
}

var bad = func() api.Tree { t := sample(); t.Next = 1; return t }()

func weights(numbers ...int) []api.Weight {
	var l []api.Weight
	for i := 0; i < len(numbers); i += 2 {
		l = append(l, api.Weight{Group: numbers[i], Weight: numbers[i+1]})
	}
	return l
}

func accounts(numbers ...int) []api.Account {
	var l []api.Account
	for i := 0; i < len(numbers); i += 2 {
		l = append(l, api.Account{Group: numbers[i], V: numbers[i+1]})
	}
	return l
}

func charges(numbers ...int) []api.Charge {
	var l []api.Charge
	for i := 0; i < len(numbers); i += 2 {
		l = append(l, api.Charge{Group: numbers[i], Own: numbers[i+1]})
	}
	return l
}

const one = api.One

func TestP32_1(t *testing.T) {
	for i, x := range []struct {
		t    api.Tree
		l    []api.Weight
		want bool
	}{
		{sample(), nil, true}, {bad, nil, false}, {sample(), weights(1, 1, 7, 10000), true}, {sample(), weights(2, 0), false}, {sample(), weights(2, 10001), false}, {sample(), weights(3, 1, 2, 1), false}, {sample(), weights(3, 1, 3, 1), false}, {sample(), weights(5, 1), false}, {bad, weights(2, 1), false},
	} {
		if iofair.Valid(x.t, x.l) != x.want {
			t.Error(i)
		}
	}
	for i, x := range []struct {
		t    api.Tree
		a    []api.Account
		want bool
	}{
		{sample(), nil, true}, {bad, nil, false}, {sample(), accounts(1, 0, 7, 1<<60), true}, {sample(), accounts(2, -1), false}, {sample(), accounts(2, 1<<60+1), false}, {sample(), accounts(3, 1, 2, 1), false}, {sample(), accounts(3, 1, 3, 1), false}, {sample(), accounts(5, 1), false},
	} {
		if iofair.Check(x.t, x.a) != x.want {
			t.Error(i)
		}
	}
}

func TestP32_2(t *testing.T) {
	l := weights(2, 100, 3, 300, 4, 1, 6, 2)
	for i, x := range []struct {
		t      api.Tree
		l      []api.Weight
		active []int
		want   []api.Charge
		e      api.Errno
	}{
		{sample(), l, []int{2, 3}, charges(1, one, 2, one/4, 3, one/4*3), api.OK}, {sample(), l, []int{2}, charges(1, one, 2, one), api.OK}, {sample(), nil, []int{3, 7, 3}, charges(1, one, 2, one/2, 3, one/2, 4, one/2, 7, one/2), api.OK}, {sample(), l, []int{6, 7, 3}, charges(1, one, 2, one/4, 3, one/4*3, 4, one/4/3, 6, one/4*2/3, 7, one/4/3), api.OK}, {sample(), l, []int{1}, charges(1, one), api.OK}, {sample(), l, nil, nil, api.OK}, {sample(), l, []int{5, 0, -1, 99}, nil, api.OK}, {sample(), l, []int{5, 6}, charges(1, one, 2, one, 6, one), api.OK},
		{sample(), weights(2, 1, 3, 10000), []int{2, 3}, charges(1, one, 2, one/10001, 3, one*10000/10001), api.OK},
		{bad, l, []int{2}, nil, api.ErrInvalid}, {sample(), weights(5, 1), []int{2}, nil, api.ErrInvalid},
	} {
		got, e := iofair.Shares(x.t, x.l, x.active)
		if !eq(got, x.want) || e != x.e {
			t.Error(i, got, e)
		}
		for _, n := range x.t.Nodes {
			want := 0
			for _, c := range x.want {
				if c.Group == n.ID {
					want = c.Own
				}
			}
			if n.ID == 1 && x.e == api.OK {
				want = one
			}
			if s, e := iofair.Share(x.t, x.l, x.active, n.ID); s != want || e != x.e {
				t.Error(i, n.ID, s, e)
			}
		}
	}
	if s, e := iofair.Share(sample(), l, []int{2}, 5); s != 0 || e != api.ErrUnknown {
		t.Error(s, e)
	}
	if s, e := iofair.Share(sample(), weights(5, 1), []int{2}, 5); s != 0 || e != api.ErrInvalid {
		t.Error(s, e)
	}
	// A share is at least 1, however little is left of it.
	deep := api.Tree{Next: 17, Nodes: []api.Node{{ID: 1}}}
	var l2 []api.Weight
	var active []int
	for d := range 7 {
		deep.Nodes = append(deep.Nodes, api.Node{ID: 2*d + 2, Parent: max(2*d, 1), Name: "x"}, api.Node{ID: 2*d + 3, Parent: max(2*d, 1), Name: "y"})
		l2 = append(l2, weights(2*d+2, 1, 2*d+3, 10000)...)
		active = append(active, 2*d+2, 2*d+3)
	}
	if s, e := iofair.Share(deep, l2, active, 14); s != 1 || e != api.OK {
		t.Error(s, e)
	}
}

func TestP32_3(t *testing.T) {
	odd := accounts(9, 5, 2, -3, 9, 6)
	for id, want := range map[int]int{9: 5, 2: -3, 1: 0} {
		if v := iofair.Get(odd, id); v != want {
			t.Error(id, v)
		}
	}
	a := accounts(2, 40, 3, 0)
	for i, x := range []struct {
		t       api.Tree
		a       []api.Account
		id, now int
		want    bool
	}{
		{sample(), a, 2, 40, true}, {sample(), a, 2, 39, false}, {sample(), a, 2, 41, true}, {sample(), a, 3, 0, true}, {sample(), a, 4, 0, true}, {sample(), a, 4, -1, false}, {sample(), a, 5, 99, false}, {bad, a, 2, 99, false}, {sample(), accounts(5, 1), 2, 99, false},
	} {
		if iofair.May(x.t, x.a, x.id, x.now) != x.want {
			t.Error(i)
		}
	}
}

func TestP32_4(t *testing.T) {
	a := accounts(2, 40, 6, 7)
	for i, x := range []struct {
		t                            api.Tree
		a                            []api.Account
		id, share, cost, now, margin int
		want                         []api.Account
		e                            api.Errno
	}{
		{sample(), nil, 2, one / 4, 10, 0, 0, accounts(2, 40), api.OK}, {sample(), a, 2, one, 10, 40, 0, accounts(2, 50, 6, 7), api.OK}, {sample(), a, 2, one, 10, 100, 30, accounts(2, 80, 6, 7), api.OK}, {sample(), a, 2, one, 10, 100, 60, accounts(2, 50, 6, 7), api.OK}, {sample(), a, 2, one, 10, 100, 70, accounts(2, 50, 6, 7), api.OK}, {sample(), a, 3, one, 10, 5, 70, accounts(2, 40, 3, 10, 6, 7), api.OK}, {sample(), a, 1, 3, 1, 0, 0, accounts(1, 357913942, 2, 40, 6, 7), api.OK}, {sample(), a, 7, one - 1, 1, 0, 0, accounts(2, 40, 6, 7, 7, 2), api.OK},
		{sample(), nil, 2, one, 1 << 32, 1 << 59, 0, accounts(2, 1<<59+1<<32), api.OK}, {sample(), nil, 2, 4, 1 << 32, 0, 0, accounts(2, 1<<60), api.OK}, {sample(), nil, 2, 4, 1 << 32, 1, 0, nil, api.ErrLimit}, {sample(), nil, 2, 1, 1 << 32, 0, 0, nil, api.ErrLimit}, {sample(), accounts(2, 1<<59), 2, 2, 1 << 30, 1 << 59, api.MaxRate, accounts(2, 1<<60), api.OK},
		{bad, a, 9, 0, 0, -1, -1, nil, api.ErrInvalid}, {sample(), accounts(5, 1), 9, 0, 0, -1, -1, nil, api.ErrInvalid}, {sample(), a, 5, 0, 0, -1, -1, nil, api.ErrUnknown}, {sample(), a, 2, 0, 10, 39, 0, nil, api.ErrRange}, {sample(), a, 2, one + 1, 10, 39, 0, nil, api.ErrRange}, {sample(), a, 2, one, 0, 39, 0, nil, api.ErrRange}, {sample(), a, 2, one, 1<<32 + 1, 39, 0, nil, api.ErrRange}, {sample(), a, 3, one, 1, -1, 0, nil, api.ErrRange}, {sample(), a, 2, one, 1, 1<<59 + 1, 0, nil, api.ErrRange}, {sample(), a, 2, one, 1, 39, -1, nil, api.ErrRange}, {sample(), a, 2, one, 1, 39, api.MaxRate + 1, nil, api.ErrRange}, {sample(), a, 2, one, math.MaxInt, math.MaxInt, 0, nil, api.ErrRange}, {sample(), a, 2, one, 1, 39, 0, nil, api.ErrAgain}, {sample(), accounts(2, 1<<60), 2, 1, 1 << 32, 5, 0, nil, api.ErrAgain},
	} {
		before := fmt.Sprint(x.a)
		got, e := iofair.Issue(x.t, x.a, x.id, x.share, x.cost, x.now, x.margin)
		if !eq(got, x.want) || e != x.e {
			t.Error(i, got, e)
		}
		for k := range got {
			got[k].V = 99
		}
		if fmt.Sprint(x.a) != before {
			t.Error(i, "memory is shared")
		}
	}
}

func TestP32_5(t *testing.T) {
	a := accounts(2, 40, 3, 30, 4, 30, 6, 50)
	for i, x := range []struct {
		t       api.Tree
		a       []api.Account
		pending []int
		now     int
		want    int
		ok      bool
	}{
		{sample(), a, []int{2, 6}, 99, 2, true}, {sample(), a, []int{6, 2}, 99, 2, true}, {sample(), a, []int{4, 3, 2}, 30, 3, true}, {sample(), a, []int{3, 4}, 30, 3, true}, {sample(), a, []int{2, 6}, 39, 0, false}, {sample(), a, []int{2, 6, 7}, 0, 7, true}, {sample(), a, []int{7, 2, 1}, 99, 1, true}, {sample(), a, []int{5, 9, 0, -3}, 99, 0, false}, {sample(), a, nil, 99, 0, false}, {bad, a, []int{2}, 99, 0, false}, {sample(), accounts(2, 9, 5, 1), []int{2}, 99, 0, false}, {sample(), a, []int{-3, 6, 99}, 50, 6, true},
	} {
		if id, ok := iofair.Next(x.t, x.a, x.pending, x.now); id != x.want || ok != x.ok {
			t.Error(i, id, ok)
		}
	}
}

// TestConsequences checks the laws of chapter 32.
func TestConsequences(t *testing.T) {
	r := rand.New(rand.NewSource(34))
	ids := []int{1, 2, 3, 4, 6, 7}
	for i := 0; i < 1500; i++ {
		var l []api.Weight
		var active []int
		for _, id := range ids {
			if r.Intn(2) == 0 {
				l = append(l, api.Weight{Group: id, Weight: 1 + r.Intn(10000)})
			}
			if r.Intn(2) == 0 {
				active = append(active, id)
			}
		}
		share := func(active []int, id int) int {
			s, _ := iofair.Share(sample(), l, active, id)
			return s
		}
		more := append(slices.Clone(active), ids[r.Intn(6)])
		for _, id := range ids {
			sum, n := 0, 0
			for _, c := range tree.Children(sample(), id) {
				if s := share(active, c); s > 0 {
					sum += s
					n++
				}
			}
			if sum > share(active, id)+n {
				t.Fatal(l, active, id)
			}
			if slices.Contains(active, id) && share(more, id) > share(active, id) {
				t.Fatal(l, active, more, id)
			}
		}
	}
	for range 200 {
		x, margin, start := 1+r.Intn(one), r.Intn(100), r.Intn(1000)
		var a []api.Account
		spent, last := 0, 0
		now := start
		for range 50 {
			now += r.Intn(20)
			c := 1 + r.Intn(30)
			if next, e := iofair.Issue(sample(), a, 2, x, c, now, margin); e == api.OK {
				a, spent, last = next, spent+c, c
			}
			if spent-last > x*(now-start+margin)/one {
				t.Fatal(x, margin, spent, last)
			}
		}
	}
}
