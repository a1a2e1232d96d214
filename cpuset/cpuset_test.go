package cpuset_test

import (
	"fmt"
	"math/rand"
	"slices"
	"strconv"
	"testing"

	"groupcontrol/api"
	"groupcontrol/cpuset"
	"groupcontrol/sets"
	"groupcontrol/settings"
	"groupcontrol/tree"
)

func eq(a, b any) bool { return fmt.Sprint(a) == fmt.Sprint(b) }

// group is a group of a sample: its parent, its processors, its nodes, and whether it wants its processors alone.
type group struct {
	parent     int
	cpus, mems []int
	alone      bool
}

// build returns a tree with the groups 2, 3, .. below the root.
func build(groups ...group) (api.Tree, []api.Config) {
	t := tree.New()
	for i, g := range groups {
		t.Nodes = append(t.Nodes, api.Node{ID: i + 2, Parent: g.parent, Name: "g" + strconv.Itoa(i)})
	}
	t.Next = len(groups) + 2
	l := settings.New(t)
	for i, g := range groups {
		l[i+1].Settings.Cpus, l[i+1].Settings.Mems = g.cpus, g.mems
		if g.alone {
			l[i+1].Settings.Partition = api.PartitionRoot
		}
	}
	return t, l
}

var four = []int{0, 1, 2, 3}

func TestP13_1(t *testing.T) {
	for i, x := range []struct {
		groups     []group
		online     []int
		all        [][]int
		partitions []int
	}{
		{nil, four, [][]int{four}, nil}, {nil, []int{15}, [][]int{{15}}, nil},
		{[]group{{1, []int{2, 3}, nil, true}, {1, nil, nil, false}}, four, [][]int{{0, 1}, {2, 3}, {0, 1}}, []int{2}},
		{[]group{{1, []int{2, 3}, nil, false}, {2, []int{3, 9}, nil, false}, {2, []int{0}, nil, false}, {3, nil, nil, false}}, four, [][]int{four, {2, 3}, {3}, {2, 3}, {3}}, nil},
		// not valid: no processors, all of them, some that are not there
		{[]group{{1, nil, nil, true}, {1, four, nil, true}, {1, []int{3, 4}, nil, true}}, four, [][]int{four, four, four, {3}}, nil},
		// the first child takes what the second one wants
		{[]group{{1, []int{1, 2}, nil, true}, {1, []int{2, 3}, nil, true}, {1, []int{3}, nil, true}, {1, []int{0}, nil, true}}, four, [][]int{{0}, {1, 2}, {0}, {3}, {0}}, []int{2, 4}},
		// below a valid partition, and below another group
		{[]group{{1, []int{1, 2, 3}, nil, true}, {2, []int{3}, nil, true}, {2, []int{3}, nil, false}, {1, []int{0}, nil, false}, {5, []int{0}, nil, true}, {3, []int{3}, nil, true}}, four, [][]int{{0}, {1, 2}, {3}, {1, 2}, {0}, {0}, {3}}, []int{2, 3}},
		{[]group{{1, []int{0, 1}, nil, false}, {2, []int{1}, nil, true}}, four, [][]int{four, {0, 1}, {1}}, nil},
		// a partition that is not valid hands on its intersection
		{[]group{{1, []int{2, 3, 7}, nil, true}, {2, []int{3}, nil, true}}, four, [][]int{four, {2, 3}, {3}}, nil},
		{[]group{{1, []int{0, 1, 2}, nil, true}, {2, []int{0}, nil, true}, {2, []int{1}, nil, true}, {2, []int{2}, nil, true}}, four, [][]int{{3}, {2}, {0}, {1}, {2}}, []int{2, 3, 4}},
	} {
		tr, l := build(x.groups...)
		if got := cpuset.All(tr, l, x.online); !eq(got, x.all) {
			t.Error(i, "All", got)
		}
		if got := cpuset.Partitions(tr, l, x.online); !eq(got, x.partitions) {
			t.Error(i, "Partitions", got)
		}
	}
}

func TestP13_2(t *testing.T) {
	tr, l := build(group{1, []int{1, 2}, nil, true}, group{1, []int{3}, nil, false}, group{2, []int{2}, nil, true})
	before := fmt.Sprint(tr, l)
	for id, want := range map[int][]int{1: {0, 3}, 2: {1}, 3: {3}, 4: {2}, 5: nil, 0: nil, -1: nil} {
		got := cpuset.Cpus(tr, l, four, id)
		if !eq(got, want) || cpuset.Exclusive(tr, l, four, id) != (id == 2 || id == 4) {
			t.Error(id, got)
		}
		for k := range got {
			got[k] = 99
		}
	}
	for _, s := range cpuset.All(tr, l, four) {
		s[0] = 99
	}
	if fmt.Sprint(tr, l) != before || !eq(four, []int{0, 1, 2, 3}) {
		t.Error("memory is shared")
	}
	unfit := slices.Clone(l)
	unfit[0].Settings.Weight = 0
	for i, x := range []struct {
		l      []api.Config
		online []int
	}{{unfit, four}, {nil, four}, {l[:3], four}, {l, nil}, {l, []int{16}}, {l, []int{1, 0}}, {l, []int{-1}}} {
		if cpuset.All(tr, x.l, x.online) != nil || cpuset.Partitions(tr, x.l, x.online) != nil || cpuset.Cpus(tr, x.l, x.online, 1) != nil || cpuset.Exclusive(tr, x.l, x.online, 2) {
			t.Error(i)
		}
	}
	if got := cpuset.Cpus(tr, l, []int{0, 15}, 1); !eq(got, []int{0, 15}) {
		t.Error(got)
	}
}

func TestP13_3(t *testing.T) {
	tr, l := build(group{1, nil, []int{1, 2}, false}, group{2, nil, []int{2, 3}, false}, group{2, nil, nil, false}, group{3, nil, []int{0}, false}, group{1, nil, []int{7}, false})
	l[0].Settings.Mems = []int{3}
	for id, want := range map[int][]int{1: four, 2: {1, 2}, 3: {2}, 4: {1, 2}, 5: {2}, 6: four, 7: nil, 0: nil} {
		got := cpuset.Mems(tr, l, four, id)
		if !eq(got, want) {
			t.Error(id, got)
		}
		for k := range got {
			got[k] = 99
		}
	}
	if !eq(four, []int{0, 1, 2, 3}) || !eq(l[1].Settings.Mems, []int{1, 2}) {
		t.Error("memory is shared")
	}
	unfit := slices.Clone(l)
	unfit[0].Settings.Weight = 0
	for i, got := range [][]int{cpuset.Mems(tr, unfit, four, 1), cpuset.Mems(tr, l, nil, 1), cpuset.Mems(tr, l, []int{8}, 1), cpuset.Mems(tr, l, []int{1, 1}, 1)} {
		if got != nil {
			t.Error(i, got)
		}
	}
	if got := cpuset.Mems(tr, l, []int{7}, 6); !eq(got, []int{7}) {
		t.Error(got)
	}
}

// shares follows the promise word by word: the groups in the order of tree.Subtree, sets as sorted slices.
func shares(t api.Tree, l []api.Config, online []int) (map[int][]int, []int) {
	share, own := map[int][]int{1: online}, map[int][]int{}
	var valid []int
	for _, g := range tree.Subtree(t, 1) {
		s := share[g]
		for _, c := range tree.Children(t, g) {
			k := settings.Get(l, c)
			if k.Partition == api.PartitionRoot && (g == 1 || slices.Contains(valid, g)) && len(k.Cpus) > 0 && sets.Within(k.Cpus, s) && len(s) >= len(k.Cpus)+1 {
				valid = append(valid, c)
				share[c] = k.Cpus
				s = sets.Minus(s, k.Cpus)
			}
		}
		own[g] = s
		for _, c := range tree.Children(t, g) {
			if slices.Contains(valid, c) {
				continue
			}
			if share[c] = sets.Intersect(settings.Get(l, c).Cpus, s); len(share[c]) == 0 {
				share[c] = s
			}
		}
	}
	slices.Sort(valid)
	return own, valid
}

// TestConsequences compares with shares, and checks what chapter 13 says about the sets.
func TestConsequences(t *testing.T) {
	r := rand.New(rand.NewSource(13))
	some := func(n int) []int {
		var l []int
		for x := range n {
			if r.Intn(3) == 0 {
				l = append(l, x)
			}
		}
		return l
	}
	found := 0
	for i := 0; i < 3000; i++ {
		var groups []group
		depth := []int{0, 0}
		for k := range r.Intn(9) {
			p := 1 + r.Intn(k+1)
			if depth[p] == api.MaxDepth {
				p = 1
			}
			depth = append(depth, depth[p]+1)
			groups = append(groups, group{p, some(6), some(4), r.Intn(2) == 0})
		}
		tr, l := build(groups...)
		online := append(some(6), 6)
		own, valid := shares(tr, l, online)
		all := cpuset.All(tr, l, online)
		if !eq(cpuset.Partitions(tr, l, online), valid) {
			t.Fatal(valid)
		}
		found += len(valid)
		above := func(id int) []int {
			return slices.DeleteFunc(tree.Ancestors(tr, id), func(a int) bool { return !slices.Contains(valid, a) })
		}
		for k, n := range tr.Nodes {
			if !eq(all[k], own[n.ID]) || len(all[k]) == 0 {
				t.Fatal(all, own)
			}
			parent := slices.IndexFunc(tr.Nodes, func(p api.Node) bool { return p.ID == n.Parent })
			if parent >= 0 && len(above(n.ID)) == 0 && !sets.Within(all[k], all[parent]) {
				t.Fatal(all)
			}
			for j, m := range tr.Nodes {
				if len(sets.Intersect(all[k], all[j])) > 0 && !eq(above(n.ID), above(m.ID)) {
					t.Fatal(all, n, m)
				}
			}
			mems := cpuset.Mems(tr, l, online, n.ID)
			if len(mems) == 0 || parent >= 0 && !sets.Within(mems, cpuset.Mems(tr, l, online, n.Parent)) {
				t.Fatal(mems)
			}
		}
	}
	if found < 300 {
		t.Error(found)
	}
}
