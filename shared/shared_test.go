package shared_test

import (
	"fmt"
	"math"
	"math/rand"
	"slices"
	"testing"

	"groupcontrol/api"
	"groupcontrol/shared"
	"groupcontrol/tree"
)

func eq(a, b any) bool { return fmt.Sprint(a) == fmt.Sprint(b) }

// sample has /a (2), /a/b (3), /d (5).
func sample() api.Tree {
	return api.Tree{Next: 6, Nodes: []api.Node{{ID: 1}, {ID: 2, Parent: 1, Name: "a"}, {ID: 3, Parent: 2, Name: "b"}, {ID: 5, Parent: 1, Name: "d"}}}
}

var bad = func() api.Tree { t := sample(); t.Next = 1; return t }()

type objects = []api.Object

// object returns an object: its ID and size, and groups with their pages.
func object(id, size int, numbers ...int) api.Object {
	o := api.Object{ID: id, Size: size}
	for i := 0; i < len(numbers); i += 2 {
		o.Parts = append(o.Parts, api.Charge{Group: numbers[i], Own: numbers[i+1]})
	}
	return o
}

func many(n int) objects {
	var l objects
	for i := range n {
		l = append(l, object(i+1, 1))
	}
	return l
}

const most = api.MaxPages

var three = objects{object(2, 10, 2, 6, 3, 2), object(5, 20, 3, 4, 5, 1), object(6, 5)}

func TestP27_1(t *testing.T) {
	for i, x := range []struct {
		t    api.Tree
		l    objects
		want bool
	}{
		{sample(), nil, true}, {bad, nil, false}, {sample(), three, true}, {bad, three, false}, {sample(), many(64), true}, {sample(), many(65), false}, {sample(), objects{object(0, 1)}, false}, {sample(), objects{object(1, 1)}, true}, {sample(), objects{object(2, 1), object(2, 1)}, false}, {sample(), objects{object(2, 1), object(1, 1)}, false}, {sample(), objects{object(api.MaxID, 1)}, true}, {sample(), objects{object(api.MaxID+1, 1)}, false},
		{sample(), objects{object(1, 0)}, false}, {sample(), objects{object(1, most)}, true}, {sample(), objects{object(1, most+1)}, false}, {sample(), objects{object(1, -1)}, false}, {sample(), objects{object(1, 9, 3, 1, 2, 1)}, false}, {sample(), objects{object(1, 9, 3, 1, 3, 1)}, false}, {sample(), objects{object(1, 9, 4, 1)}, false}, {sample(), objects{object(1, 9, 2, 0)}, false}, {sample(), objects{object(1, 9, 2, -1, 3, 2)}, false}, {sample(), objects{object(1, 9, 2, 9)}, true}, {sample(), objects{object(1, 9, 2, 10)}, false}, {sample(), objects{object(1, 9, 2, 9, 3, 1)}, false}, {sample(), objects{object(1, 9, 2, math.MaxInt, 3, math.MaxInt)}, false},
		{sample(), objects{object(1, most, 2, most)}, true}, {sample(), objects{object(1, most, 2, most), object(2, 1, 2, 1)}, false}, {sample(), objects{object(1, most, 2, most-1), object(2, 1, 2, 1)}, true},
	} {
		if shared.Valid(x.t, x.l) != x.want {
			t.Error(i)
		}
	}
	if n := shared.Resident(object(0, -4, 9, 5, 9, -2, 1, 4)); n != 7 {
		t.Error(n)
	}
	odd := objects{object(7, 0, 9, 5, 9, -2, 1, 4), object(7, 0, 9, 6)}
	for id, want := range map[int]int{9: 9, 1: 4, 2: 0} {
		if n := shared.Files(odd, id); n != want {
			t.Error(id, n)
		}
	}
}

// compare compares objects with what is expected, and sees that they share no memory with the argument.
func compare(t *testing.T, i int, l, got, want objects, e, f api.Errno) {
	t.Helper()
	before := fmt.Sprint(l)
	if e != f || !eq(got, want) || e == api.OK && !shared.Valid(sample(), got) {
		t.Error(i, got, e)
	}
	for k := range got {
		got[k].ID = 99
		for j := range got[k].Parts {
			got[k].Parts[j].Group = 99
		}
	}
	if fmt.Sprint(l) != before {
		t.Error(i, "memory is shared")
	}
}

func TestP27_2(t *testing.T) {
	last := objects{object(api.MaxID, 1)}
	for i, x := range []struct {
		t    api.Tree
		l    objects
		size int
		id   int
		e    api.Errno
	}{
		{sample(), nil, 1, 1, api.OK}, {sample(), three, most, 7, api.OK}, {sample(), many(63), 1, 64, api.OK}, {sample(), objects{object(api.MaxID-1, 1)}, 1, api.MaxID, api.OK}, {bad, nil, 0, 0, api.ErrInvalid}, {sample(), many(65), 0, 0, api.ErrInvalid}, {sample(), many(64), 0, 0, api.ErrRange}, {sample(), nil, most + 1, 0, api.ErrRange}, {sample(), nil, -1, 0, api.ErrRange}, {sample(), many(64), 1, 0, api.ErrLimit}, {sample(), last, 1, 0, api.ErrLimit},
	} {
		got, id, e := shared.Create(x.t, x.l, x.size)
		var want objects
		if x.e == api.OK {
			want = append(slices.Clone(x.l), api.Object{ID: x.id, Size: x.size})
		}
		if id != x.id {
			t.Error(i, id)
		}
		compare(t, i, x.l, got, want, e, x.e)
	}
}

func TestP27_3(t *testing.T) {
	for i, x := range []struct {
		t     api.Tree
		l     objects
		id, n int
		want  int
		e     api.Errno
	}{
		{sample(), three, 2, 10, 2, api.OK}, {sample(), three, 2, 9, 1, api.OK}, {sample(), three, 2, 8, 0, api.OK}, {sample(), three, 2, 3, 0, api.OK}, {sample(), three, 2, most, 2, api.OK}, {sample(), three, 6, 0, 0, api.OK}, {sample(), three, 6, 4, 4, api.OK}, {bad, three, 9, -1, 0, api.ErrInvalid}, {sample(), many(65), 9, -1, 0, api.ErrInvalid}, {sample(), three, 3, -1, 0, api.ErrUnknown}, {sample(), three, 2, -1, 0, api.ErrRange}, {sample(), three, 2, most + 1, 0, api.ErrRange},
	} {
		if n, e := shared.Need(x.t, x.l, x.id, x.n); n != x.want || e != x.e {
			t.Error(i, n, e)
		}
	}
	full := objects{object(1, most, 2, most-3), object(2, 9)}
	for i, x := range []struct {
		t            api.Tree
		l            objects
		id, group, n int
		want         objects
		e            api.Errno
	}{
		{sample(), three, 2, 5, 2, objects{object(2, 10, 2, 6, 3, 2, 5, 2), three[1], three[2]}, api.OK}, {sample(), three, 2, 3, 1, objects{object(2, 10, 2, 6, 3, 3), three[1], three[2]}, api.OK}, {sample(), three, 5, 1, 15, objects{three[0], object(5, 20, 1, 15, 3, 4, 5, 1), three[2]}, api.OK}, {sample(), three, 6, 2, 0, three, api.OK}, {sample(), full, 2, 3, 3, objects{full[0], object(2, 9, 3, 3)}, api.OK},
		{bad, three, 9, 9, -1, nil, api.ErrInvalid}, {sample(), many(65), 9, 9, -1, nil, api.ErrInvalid}, {sample(), three, 3, 2, -1, nil, api.ErrUnknown}, {sample(), three, 2, 4, -1, nil, api.ErrUnknown}, {sample(), three, 2, 2, -1, nil, api.ErrRange}, {sample(), three, 2, 2, most + 1, nil, api.ErrRange}, {sample(), three, 2, 2, 3, nil, api.ErrRange}, {sample(), full, 2, 2, 10, nil, api.ErrRange}, {sample(), full, 2, 3, 4, nil, api.ErrLimit}, {sample(), full, 2, 3, math.MinInt, nil, api.ErrRange},
	} {
		got, e := shared.Bring(x.t, x.l, x.id, x.group, x.n)
		compare(t, i, x.l, got, x.want, e, x.e)
	}
	for i, x := range []struct {
		t            api.Tree
		l            objects
		id, group, n int
		want         objects
		more         int
		e            api.Errno
	}{
		{sample(), three, 2, 5, 9, objects{object(2, 10, 2, 6, 3, 2, 5, 1), three[1], three[2]}, 1, api.OK}, {sample(), three, 2, 2, most, objects{object(2, 10, 2, 8, 3, 2), three[1], three[2]}, 2, api.OK}, {sample(), three, 2, 5, 8, three, 0, api.OK}, {sample(), three, 2, 5, 0, three, 0, api.OK}, {sample(), full, 2, 3, 3, objects{full[0], object(2, 9, 3, 3)}, 3, api.OK},
		{bad, three, 9, 9, -1, nil, 0, api.ErrInvalid}, {sample(), many(65), 9, 9, -1, nil, 0, api.ErrInvalid}, {sample(), three, 3, 2, -1, nil, 0, api.ErrUnknown}, {sample(), three, 2, 4, -1, nil, 0, api.ErrUnknown}, {sample(), three, 2, 2, -1, nil, 0, api.ErrRange}, {sample(), three, 2, 2, most + 1, nil, 0, api.ErrRange}, {sample(), full, 2, 3, 4, nil, 0, api.ErrLimit}, {sample(), full, 2, 3, most, nil, 0, api.ErrLimit},
	} {
		got, more, e := shared.Touch(x.t, x.l, x.id, x.group, x.n)
		if more != x.more {
			t.Error(i, more)
		}
		compare(t, i, x.l, got, x.want, e, x.e)
	}
}

func TestP27_4(t *testing.T) {
	for i, x := range []struct {
		t        api.Tree
		l        objects
		group, n int
		want     objects
		e        api.Errno
	}{
		{sample(), three, 3, 1, objects{object(2, 10, 2, 6, 3, 1), three[1], three[2]}, api.OK}, {sample(), three, 3, 2, objects{object(2, 10, 2, 6), three[1], three[2]}, api.OK}, {sample(), three, 3, 3, objects{object(2, 10, 2, 6), object(5, 20, 3, 3, 5, 1), three[2]}, api.OK}, {sample(), three, 3, 6, objects{object(2, 10, 2, 6), object(5, 20, 5, 1), three[2]}, api.OK}, {sample(), three, 5, 1, objects{three[0], object(5, 20, 3, 4), three[2]}, api.OK}, {sample(), three, 1, 0, three, api.OK},
		{bad, three, 9, -1, nil, api.ErrInvalid}, {sample(), many(65), 9, -1, nil, api.ErrInvalid}, {sample(), three, 4, -1, nil, api.ErrUnknown}, {sample(), three, 3, -1, nil, api.ErrRange}, {sample(), three, 3, 7, nil, api.ErrRange}, {sample(), three, 1, 1, nil, api.ErrRange},
	} {
		got, e := shared.Drop(x.t, x.l, x.group, x.n)
		compare(t, i, x.l, got, x.want, e, x.e)
	}
}

func TestP27_5(t *testing.T) {
	for i, x := range []struct {
		t     api.Tree
		l     objects
		id    int
		want  objects
		parts []api.Charge
		e     api.Errno
	}{
		{sample(), three, 2, three[1:], three[0].Parts, api.OK}, {sample(), three, 5, objects{three[0], three[2]}, three[1].Parts, api.OK}, {sample(), three, 6, three[:2], nil, api.OK}, {bad, three, 9, nil, nil, api.ErrInvalid}, {sample(), many(65), 99, nil, nil, api.ErrInvalid}, {sample(), three, 3, nil, nil, api.ErrUnknown}, {sample(), nil, 1, nil, nil, api.ErrUnknown},
	} {
		before := fmt.Sprint(x.l)
		got, parts, e := shared.Delete(x.t, x.l, x.id)
		if !eq(parts, x.parts) {
			t.Error(i, parts)
		}
		for k := range parts {
			parts[k].Group = 99
		}
		if fmt.Sprint(x.l) != before {
			t.Error(i, "memory is shared")
		}
		compare(t, i, x.l, got, x.want, e, x.e)
	}
}

func TestP27_6(t *testing.T) {
	for i, x := range []struct {
		t     api.Tree
		l     objects
		group int
		want  objects
		e     api.Errno
	}{
		{sample(), three, 3, objects{object(2, 10, 2, 8), object(5, 20, 2, 4, 5, 1), three[2]}, api.OK}, {sample(), three, 5, objects{three[0], object(5, 20, 1, 1, 3, 4), three[2]}, api.OK}, {sample(), many(3), 5, many(3), api.OK}, {sample(), nil, 5, nil, api.OK},
		{bad, three, 9, nil, api.ErrInvalid}, {sample(), many(65), 9, nil, api.ErrInvalid}, {sample(), three, 4, nil, api.ErrUnknown}, {sample(), three, 1, nil, api.ErrRange}, {tree.New(), nil, 1, nil, api.ErrRange}, {sample(), three, 2, nil, api.ErrBusy},
	} {
		got, e := shared.Remove(x.t, x.l, x.group)
		compare(t, i, x.l, got, x.want, e, x.e)
	}
}

// TestConsequences: no page is charged twice.
func TestConsequences(t *testing.T) {
	r := rand.New(rand.NewSource(29))
	l := objects{}
	for i := 0; i < 4000; i++ {
		var n objects
		var e api.Errno
		group, id := []int{1, 2, 3, 5}[r.Intn(4)], 1+r.Intn(6)
		switch r.Intn(7) {
		case 0:
			n, _, e = shared.Create(sample(), l, 1+r.Intn(30))
		case 1:
			n, _, e = shared.Delete(sample(), l, id)
		case 2:
			n, e = shared.Drop(sample(), l, group, r.Intn(9))
		case 3:
			n, e = shared.Bring(sample(), l, id, group, r.Intn(9))
		default:
			k := r.Intn(40)
			var more int
			n, more, e = shared.Touch(sample(), l, id, group, k)
			if need, f := shared.Need(sample(), l, id, k); e == api.OK && (need != more || f != api.OK) {
				t.Fatal(l, n, more)
			}
			if again, more, f := shared.Touch(sample(), n, id, 1, k); e == api.OK && (more != 0 || !eq(again, n) || f != api.OK) {
				t.Fatal(l, n)
			}
		}
		if e != api.OK {
			continue
		}
		l = n
		files, resident := 0, 0
		for _, node := range sample().Nodes {
			files += shared.Files(l, node.ID)
		}
		for _, o := range l {
			resident += shared.Resident(o)
		}
		if files != resident || !shared.Valid(sample(), l) {
			t.Fatal(l)
		}
	}
}
