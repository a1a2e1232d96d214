package groups_test

import (
	"testing"

	"groupcontrol/api"
	"groupcontrol/groups"
)

// sample has /a (2), /a/b (3), /c (5).
func sample() api.Tree {
	return api.Tree{Next: 6, Nodes: []api.Node{{ID: 1}, {ID: 2, Parent: 1, Name: "a"}, {ID: 3, Parent: 2, Name: "b"}, {ID: 5, Parent: 1, Name: "c"}}}
}

func TestKnown(t *testing.T) {
	for id, want := range map[int]bool{-1: false, 0: false, 1: true, 2: true, 3: true, 4: false, 5: true, 6: false} {
		if groups.Known(sample(), id) != want {
			t.Error(id)
		}
	}
}

func TestAscending(t *testing.T) {
	bad := sample()
	bad.Next = 1
	for i, x := range []struct {
		t    api.Tree
		l    []int
		want bool
	}{{sample(), nil, true}, {bad, nil, false}, {sample(), []int{1, 2, 3, 5}, true}, {sample(), []int{1, 5}, true}, {sample(), []int{5, 1}, false}, {sample(), []int{2, 2}, false}, {sample(), []int{4}, false}, {sample(), []int{0}, false}, {bad, []int{1}, false}} {
		if groups.Ascending(x.t, x.l, func(id int) int { return id }) != x.want {
			t.Error(i)
		}
	}
}

func TestTotals(t *testing.T) {
	totals := groups.Totals(sample(), map[int]int{1: 1, 3: 10, 5: 100, 9: 1000})
	for id, want := range map[int]int{1: 111, 2: 10, 3: 10, 5: 100, 9: 0} {
		if totals[id] != want {
			t.Error(id, totals[id])
		}
	}
}
