package protect_test

import (
	"fmt"
	"math/rand"
	"testing"

	"groupcontrol/api"
	"groupcontrol/counter"
	"groupcontrol/protect"
	"groupcontrol/tree"
)

func eq(a, b any) bool { return fmt.Sprint(a) == fmt.Sprint(b) }

// sample has /a (2), /a/b (3), /a/c (4), /d (6), /a/b/e (7).
func sample() api.Tree {
	return api.Tree{Next: 8, Nodes: []api.Node{{ID: 1}, {ID: 2, Parent: 1, Name: "a"}, {ID: 3, Parent: 2, Name: "b"}, {ID: 4, Parent: 2, Name: "c"}, {ID: 6, Parent: 1, Name: "d"}, {ID: 7, Parent: 3, Name: "e"}}}
}

var bad = func() api.Tree { t := sample(); t.Next = 1; return t }()

func of(numbers ...int) api.Counter {
	var c api.Counter
	for i := 0; i < len(numbers); i += 2 {
		c.Charges = append(c.Charges, api.Charge{Group: numbers[i], Own: numbers[i+1]})
	}
	return c
}

// list returns protections: groups with Min and Low.
func list(numbers ...int) []api.Protection {
	var l []api.Protection
	for i := 0; i < len(numbers); i += 3 {
		l = append(l, api.Protection{Group: numbers[i], Min: numbers[i+1], Low: numbers[i+2]})
	}
	return l
}

func TestP23_1(t *testing.T) {
	for i, x := range []struct {
		t    api.Tree
		p    []api.Protection
		want bool
	}{
		{sample(), nil, true}, {bad, nil, false}, {sample(), list(1, 0, 0, 7, api.Max, api.Max), true}, {sample(), list(1, -1, 0), false}, {sample(), list(1, 0, -1), false}, {sample(), list(1, api.Max+1, 0), false}, {sample(), list(1, 0, api.Max+1), false}, {sample(), list(2, 1, 1, 1, 1, 1), false}, {sample(), list(2, 1, 1, 2, 1, 1), false}, {sample(), list(5, 1, 1), false}, {bad, list(1, 1, 1), false},
	} {
		if protect.Valid(x.t, x.p) != x.want {
			t.Error(i)
		}
	}
}

func TestP23_2(t *testing.T) {
	p := list(2, 100, 40, 3, 100, 30, 4, 100, 0)
	for i, x := range []struct {
		t    api.Tree
		c    api.Counter
		p    []api.Protection
		root int
		want []api.Protection
		e    api.Errno
	}{
		{sample(), of(3, 200, 4, 100), p, 1, list(1, 0, 0, 2, 100, 40, 3, 50, 30, 4, 50, 0, 6, 0, 0, 7, 0, 0), api.OK},
		{sample(), of(3, 50, 4, 100), p, 1, list(1, 0, 0, 2, 100, 40, 3, 33, 30, 4, 66, 0, 6, 0, 0, 7, 0, 0), api.OK},
		{sample(), of(3, 200, 4, 100), p, 2, list(2, 0, 0, 3, 100, 30, 4, 100, 0, 7, 0, 0), api.OK},
		{sample(), of(3, 200, 4, 100), p, 3, list(3, 0, 0, 7, 0, 0), api.OK}, {sample(), of(3, 200), p, 6, list(6, 0, 0), api.OK},
		{sample(), of(2, 500, 3, 40, 4, 60), p, 1, list(1, 0, 0, 2, 100, 40, 3, 40, 30, 4, 60, 0, 6, 0, 0, 7, 0, 0), api.OK},
		{sample(), of(2, 500, 3, 41, 4, 60), p, 1, list(1, 0, 0, 2, 100, 40, 3, 40, 30, 4, 59, 0, 6, 0, 0, 7, 0, 0), api.OK},
		{sample(), of(6, api.MaxPages), list(1, 5, 5, 6, api.Max, api.MaxPages+9), 1, list(1, 0, 0, 2, 0, 0, 3, 0, 0, 4, 0, 0, 6, api.MaxPages, api.MaxPages, 7, 0, 0), api.OK},
		// settings count as at most MaxPages each
		{sample(), of(3, 900, 4, 100), list(2, 100, 100, 3, api.Max, 900, 4, 100, 100), 1, list(1, 0, 0, 2, 100, 100, 3, 90, 90, 4, 10, 10, 6, 0, 0, 7, 0, 0), api.OK},
		{sample(), of(7, 100), list(2, 80, 0, 3, 60, 10, 7, 100, 20), 1, list(1, 0, 0, 2, 80, 0, 3, 60, 0, 4, 0, 0, 6, 0, 0, 7, 60, 0), api.OK},
		{bad, of(), nil, 1, nil, api.ErrInvalid}, {sample(), of(5, 1), nil, 9, nil, api.ErrInvalid}, {sample(), of(), list(5, 1, 1), 9, nil, api.ErrInvalid}, {sample(), of(), nil, 5, nil, api.ErrUnknown}, {sample(), of(), nil, 0, nil, api.ErrUnknown},
	} {
		if l, e := protect.Effective(x.t, x.c, x.p, x.root); e != x.e || !eq(l, x.want) {
			t.Error(i, l, e)
		}
	}
}

func TestP23_3(t *testing.T) {
	p := list(1, 7, 0, 2, 100, 40, 3, 100, 30, 4, 100, 0, 7, 300, 15)
	for i, x := range []struct {
		t            api.Tree
		p            []api.Protection
		id, usage    int
		minimum, low int
		e            api.Errno
	}{
		{sample(), p, 3, 50, 25, 30, api.OK}, {sample(), p, 3, 10, 5, 10, api.OK}, {sample(), p, 2, 50, 50, 40, api.OK}, {sample(), p, 2, 500, 100, 40, api.OK}, {sample(), p, 7, 90, 15, 15, api.OK}, {sample(), p, 7, 1000, 50, 15, api.OK}, {sample(), p, 6, 1000, 0, 0, api.OK}, {sample(), p, 1, 5, 5, 0, api.OK}, {sample(), p, 1, 9, 7, 0, api.OK}, {sample(), p, 4, api.MaxPages, 50, 0, api.OK}, {sample(), p, 4, 0, 0, 0, api.OK}, {sample(), nil, 4, 9, 0, 0, api.OK}, {sample(), list(2, 10, 7, 3, api.Max, api.Max), 3, api.MaxPages, 10, 7, api.OK},
		{sample(), list(2, api.Max, 5, 3, api.Max, 0, 4, api.Max, 7), 3, api.MaxPages, api.MaxPages / 2, 0, api.OK}, {sample(), list(2, 0, 5, 3, 9, 0, 4, 9, 7), 4, 9, 0, 5, api.OK}, {sample(), list(2, 10, 5, 3, 5, 2, 4, 5, 3), 3, 9, 5, 2, api.OK}, {sample(), list(2, 9, 4, 3, 5, 2, 4, 5, 3), 3, 9, 4, 1, api.OK},
		{bad, p, 9, -1, 0, 0, api.ErrInvalid}, {sample(), list(5, 1, 1), 9, -1, 0, 0, api.ErrInvalid}, {sample(), p, 5, -1, 0, 0, api.ErrUnknown}, {sample(), p, 0, 1, 0, 0, api.ErrUnknown}, {sample(), p, 3, -1, 0, 0, api.ErrRange}, {sample(), p, 3, api.MaxPages + 1, 0, 0, api.ErrRange},
	} {
		if a, b, e := protect.Floor(x.t, x.p, x.id, x.usage); e != x.e || a != x.minimum || b != x.low {
			t.Error(i, a, b, e)
		}
	}
}

// TestConsequences checks the laws of chapter 23.
func TestConsequences(t *testing.T) {
	r := rand.New(rand.NewSource(25))
	ids := []int{1, 2, 3, 4, 6, 7}
	effective := func(c api.Counter, p []api.Protection, root int) map[int]api.Protection {
		l, e := protect.Effective(sample(), c, p, root)
		if e != api.OK || len(l) != len(tree.Subtree(sample(), root)) {
			t.Fatal(l, e)
		}
		m := map[int]api.Protection{}
		for _, x := range l {
			m[x.Group] = x
		}
		return m
	}
	for i := 0; i < 4000; i++ {
		var c api.Counter
		var p []api.Protection
		for _, id := range ids {
			if n := r.Intn(80); n > 0 {
				c, _ = counter.Add(sample(), c, id, n)
			}
			p = append(p, api.Protection{Group: id, Min: r.Intn(100), Low: r.Intn(2) * r.Intn(100)})
		}
		root := ids[r.Intn(len(ids))]
		m := effective(c, p, root)
		for _, id := range tree.Subtree(sample(), root) {
			usage, _ := counter.Total(sample(), c, id)
			var sum api.Protection
			for _, child := range tree.Children(sample(), id) {
				sum.Min += m[child].Min
				sum.Low += m[child].Low
			}
			if m[id].Min > usage || m[id].Low > usage || id != root && (sum.Min > m[id].Min || sum.Low > m[id].Low) {
				t.Fatal(c, p, root, m)
			}
			for _, x := range p {
				if x.Group == id && (m[id].Min > x.Min || m[id].Low > x.Low) {
					t.Fatal(c, p, root, m)
				}
			}
			a, b, _ := protect.Floor(sample(), p, id, usage)
			if depth := tree.Depth(sample(), id) - 1; root == 1 && id != 1 && (m[id].Min < a-depth || m[id].Low < b-depth) {
				t.Fatal(c, p, id, m, a, b)
			}
		}
		// A greater setting lowers nothing of its group, and raises nothing of its siblings.
		k := 1 + r.Intn(len(p)-1)
		more := append([]api.Protection{}, p...)
		more[k].Min += 1 + r.Intn(50)
		grown := effective(c, more, root)
		for id, x := range grown {
			if id == p[k].Group && x.Min < m[id].Min || x.Low != m[id].Low {
				t.Fatal(c, p, more)
			}
			a, _ := tree.Find(sample(), id)
			b, _ := tree.Find(sample(), p[k].Group)
			if id != p[k].Group && a.Parent == b.Parent && x.Min > m[id].Min {
				t.Fatal(c, p, more)
			}
		}
	}
}
