package event_test

import (
	"fmt"
	"math/rand"
	"slices"
	"testing"

	"groupcontrol/api"
	"groupcontrol/event"
	"groupcontrol/tree"
)

func eq(a, b any) bool { return fmt.Sprint(a) == fmt.Sprint(b) }

// sample has /a (2), /a/b (3), /d (5), /a/b/e (6).
func sample() api.Tree {
	return api.Tree{Next: 7, Nodes: []api.Node{{ID: 1}, {ID: 2, Parent: 1, Name: "a"}, {ID: 3, Parent: 2, Name: "b"}, {ID: 5, Parent: 1, Name: "d"}, {ID: 6, Parent: 3, Name: "e"}}}
}

var bad = func() api.Tree { t := sample(); t.Next = 1; return t }()

// base returns tallies in which each count is a number of its own.
func base() []api.Tally {
	l := event.New(sample())
	for i := range l {
		for k := range l[i].Counts {
			l[i].Counts[k] = 100*i + k + 1
		}
	}
	return l
}

func with(change func([]api.Tally)) []api.Tally {
	l := base()
	change(l)
	return l
}

const most = api.MaxValue

func TestP37_1(t *testing.T) {
	want := []api.Tally{{Group: 1}, {Group: 2}, {Group: 3}, {Group: 5}, {Group: 6}}
	if l := event.New(sample()); !eq(l, want) || !event.Valid(sample(), l) {
		t.Error(l)
	}
	if l := event.New(bad); l != nil {
		t.Error(l)
	}
	for i, x := range []struct {
		t    api.Tree
		l    []api.Tally
		want bool
	}{
		{sample(), base(), true}, {bad, base(), false}, {sample(), nil, false}, {sample(), base()[:4], false}, {sample(), append(base(), base()[4]), false}, {sample(), with(func(l []api.Tally) { l[3].Group = 4 }), false}, {sample(), with(func(l []api.Tally) { l[3], l[4] = l[4], l[3] }), false}, {sample(), with(func(l []api.Tally) { l[3].Counts[5] = -1 }), false}, {sample(), with(func(l []api.Tally) { l[3].Counts[0] = most + 1 }), false}, {sample(), with(func(l []api.Tally) { l[3].Counts[0] = most; l[2].Counts[5] = 0 }), true},
	} {
		if event.Valid(x.t, x.l) != x.want {
			t.Error(i)
		}
	}
}

// compare compares tallies with what is expected, and sees that they share no memory with the argument.
func compare(t *testing.T, i int, l, got, want []api.Tally, e, f api.Errno) {
	t.Helper()
	before := fmt.Sprint(l)
	if e != f || !eq(got, want) {
		t.Error(i, got, e)
	}
	for k := range got {
		got[k].Group = 99
	}
	if fmt.Sprint(l) != before {
		t.Error(i, "memory is shared")
	}
}

func TestP37_2(t *testing.T) {
	for i, x := range []struct {
		t           api.Tree
		l           []api.Tally
		id, kind, n int
		want        []api.Tally
		e           api.Errno
	}{
		{sample(), base(), 3, api.EventKill, 5, with(func(l []api.Tally) { l[2].Counts[4] += 5 }), api.OK}, {sample(), base(), 1, 0, 0, base(), api.OK}, {sample(), base(), 6, 5, most - 406, with(func(l []api.Tally) { l[4].Counts[5] = most }), api.OK},
		{bad, base(), 9, -1, -1, nil, api.ErrInvalid}, {sample(), nil, 9, -1, -1, nil, api.ErrInvalid}, {sample(), base(), 4, -1, -1, nil, api.ErrUnknown}, {sample(), base(), 3, -1, 1, nil, api.ErrRange}, {sample(), base(), 3, 6, 1, nil, api.ErrRange}, {sample(), base(), 3, 1, -1, nil, api.ErrRange}, {sample(), base(), 3, 1, most + 1, nil, api.ErrRange}, {sample(), base(), 6, 5, most - 405, nil, api.ErrLimit}, {sample(), base(), 6, 5, most, nil, api.ErrLimit},
	} {
		got, e := event.Add(x.t, x.l, x.id, x.kind, x.n)
		compare(t, i, x.l, got, x.want, e, x.e)
	}
}

func TestP37_3(t *testing.T) {
	odd := []api.Tally{{Group: 9, Counts: [6]int{-4, 2, 3, 4, 5, 6}}, {Group: 9, Counts: [6]int{7}}}
	for i, x := range []struct{ id, kind, want int }{{9, 0, -4}, {9, 5, 6}, {9, 6, 0}, {9, -1, 0}, {8, 0, 0}} {
		if n := event.Own(odd, x.id, x.kind); n != x.want {
			t.Error(i, n)
		}
	}
	for i, x := range []struct {
		t        api.Tree
		l        []api.Tally
		id, kind int
		want     int
		e        api.Errno
	}{
		{sample(), base(), 1, 0, 1005, api.OK}, {sample(), base(), 2, 3, 712, api.OK}, {sample(), base(), 3, 5, 612, api.OK}, {sample(), base(), 5, 1, 302, api.OK}, {sample(), base(), 6, 4, 405, api.OK}, {bad, base(), 9, 9, 0, api.ErrInvalid}, {sample(), nil, 9, 9, 0, api.ErrInvalid}, {sample(), base(), 4, 9, 0, api.ErrUnknown}, {sample(), base(), 3, 6, 0, api.ErrRange}, {sample(), base(), 3, -1, 0, api.ErrRange},
	} {
		if n, e := event.Total(x.t, x.l, x.id, x.kind); n != x.want || e != x.e {
			t.Error(i, n, e)
		}
	}
}

func TestP37_4(t *testing.T) {
	other := api.Tree{Next: 9, Nodes: []api.Node{{ID: 1}, {ID: 3, Parent: 1, Name: "b"}, {ID: 8, Parent: 3, Name: "n"}}}
	odd := []api.Tally{{Group: 3, Counts: [6]int{-4, most + 7, 3, most, 0, 6}}, {Group: 3, Counts: [6]int{7}}, {Group: 9, Counts: [6]int{7}}}
	got, e := event.Adjust(other, odd)
	compare(t, 0, odd, got, []api.Tally{{Group: 1}, {Group: 3, Counts: [6]int{0, most, 3, most, 0, 6}}, {Group: 8}}, e, api.OK)
	got, e = event.Adjust(sample(), base())
	compare(t, 1, base(), got, base(), e, api.OK)
	got, e = event.Adjust(bad, base())
	compare(t, 2, base(), got, nil, e, api.ErrInvalid)
	sum := func(i, k int) func([]api.Tally) {
		return func(l []api.Tally) {
			for kind := range l[i].Counts {
				l[k].Counts[kind] += l[i].Counts[kind]
			}
		}
	}
	for i, x := range []struct {
		t    api.Tree
		l    []api.Tally
		id   int
		want []api.Tally
		e    api.Errno
	}{
		{sample(), base(), 6, with(sum(4, 2))[:4], api.OK}, {sample(), base(), 5, slices.Delete(with(sum(3, 0)), 3, 4), api.OK}, {sample(), with(func(l []api.Tally) { l[2].Counts[1] = most - 1 }), 6, with(func(l []api.Tally) { sum(4, 2)(l); l[2].Counts[1] = most })[:4], api.OK},
		{bad, base(), 9, nil, api.ErrInvalid}, {sample(), nil, 9, nil, api.ErrInvalid}, {sample(), base(), 4, nil, api.ErrUnknown}, {sample(), base(), 1, nil, api.ErrRange}, {tree.New(), []api.Tally{{Group: 1}}, 1, nil, api.ErrRange}, {sample(), base(), 3, nil, api.ErrBusy}, {sample(), base(), 2, nil, api.ErrBusy},
	} {
		got, e := event.Remove(x.t, x.l, x.id)
		compare(t, i, x.l, got, x.want, e, x.e)
	}
}

func TestP37_5(t *testing.T) {
	for i, x := range []struct {
		t     api.Tree
		l     []api.Tally
		id    int
		local bool
		want  string
		e     api.Errno
	}{
		{sample(), base(), 3, true, "low 201\nhigh 202\nmax 203\noom 204\noom_kill 205\n", api.OK}, {sample(), base(), 3, false, "low 602\nhigh 604\nmax 606\noom 608\noom_kill 610\n", api.OK}, {sample(), event.New(sample()), 1, false, "low 0\nhigh 0\nmax 0\noom 0\noom_kill 0\n", api.OK}, {bad, base(), 9, true, "", api.ErrInvalid}, {sample(), nil, 9, false, "", api.ErrInvalid}, {sample(), base(), 4, true, "", api.ErrUnknown}, {sample(), base(), 4, false, "", api.ErrUnknown},
	} {
		if s, e := event.Text(x.t, x.l, x.id, x.local); s != x.want || e != x.e {
			t.Errorf("%d %q %v", i, s, e)
		}
	}
}

func TestP37_6(t *testing.T) {
	w := []api.Watcher{{Group: 3, Kind: 4, Seen: 1}, {Group: 4, Kind: 4, Seen: 1}, {Group: 3, Kind: 6, Seen: 1}, {Group: 5, Kind: 5, Seen: 306}, {Group: 1, Kind: 0, Seen: 2000}, {Group: 3, Kind: -1, Seen: -7}}
	want := []api.Watcher{{Group: 3, Kind: 4, Seen: 610}, w[1], w[2], w[3], {Group: 1, Kind: 0, Seen: 1005}, w[5]}
	before := fmt.Sprint(w)
	got, news, e := event.Poll(sample(), base(), w)
	if !eq(got, want) || !eq(news, []int{0, 4}) || e != api.OK || fmt.Sprint(w) != before {
		t.Error(got, news, e)
	}
	if again, news, e := event.Poll(sample(), base(), got); !eq(again, want) || len(news) != 0 || e != api.OK {
		t.Error(again, news, e)
	}
	many := slices.Repeat([]api.Watcher{{Group: 1}}, 32)
	for i, x := range []struct {
		t api.Tree
		l []api.Tally
		w []api.Watcher
		e api.Errno
	}{{bad, base(), append(many, w[0]), api.ErrInvalid}, {sample(), nil, append(many, w[0]), api.ErrInvalid}, {sample(), base(), append(many, w[0]), api.ErrLimit}} {
		if got, news, e := event.Poll(x.t, x.l, x.w); got != nil || news != nil || e != x.e {
			t.Error(i, got, news, e)
		}
	}
	if got, news, e := event.Poll(sample(), base(), many); len(got) != 32 || len(news) != 32 || e != api.OK {
		t.Error(got, news, e)
	}
}

// TestConsequences: totals of the groups that are left do not change with Remove.
func TestConsequences(t *testing.T) {
	r := rand.New(rand.NewSource(39))
	l := event.New(sample())
	for i := 0; i < 500; i++ {
		id, kind := []int{1, 2, 3, 5, 6}[r.Intn(5)], r.Intn(6)
		l, _ = event.Add(sample(), l, id, kind, r.Intn(9))
		for _, id := range []int{5, 6} {
			smaller, _ := tree.Remove(sample(), id)
			moved, e := event.Remove(sample(), l, id)
			for _, n := range smaller.Nodes {
				a, _ := event.Total(sample(), l, n.ID, kind)
				b, f := event.Total(smaller, moved, n.ID, kind)
				if a != b || e != api.OK || f != api.OK {
					t.Fatal(l, moved)
				}
			}
		}
	}
}
