// Package groups: what is noted for the groups of a tree.
package groups

import (
	"cmp"
	"slices"

	"groupcontrol/api"
	"groupcontrol/tree"
)

// Known reports whether a tree that tree.Check accepts has a group.
func Known(t api.Tree, id int) bool {
	_, ok := slices.BinarySearchFunc(t.Nodes, id, func(n api.Node, id int) int { return cmp.Compare(n.ID, id) })
	return ok
}

// Ascending reports whether t is a tree, and the elements of a list are noted for different groups of it, ascending.
func Ascending[T any](t api.Tree, l []T, group func(T) int) bool {
	return tree.Check(t) && Ordered(t, l, group)
}

// Ordered reports whether the elements of a list are noted for different groups, ascending, of a tree that tree.Check accepts.
func Ordered[T any](t api.Tree, l []T, group func(T) int) bool {
	last := 0
	for _, x := range l {
		id := group(x)
		if id <= last || !Known(t, id) {
			return false
		}
		last = id
	}
	return true
}

// Totals returns the sums of what groups have over their subtrees, for a tree that tree.Check accepts. Children come behind their parents in the list of nodes, so their sums are complete when they are added.
func Totals(t api.Tree, own map[int]int) map[int]int {
	totals := map[int]int{}
	for _, n := range slices.Backward(t.Nodes) {
		totals[n.ID] += own[n.ID]
		totals[n.Parent] += totals[n.ID]
	}
	return totals
}
