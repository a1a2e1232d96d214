// Package copies: values of package api that share no memory with those that they were made from.
package copies

import (
	"slices"

	"groupcontrol/api"
)

// Tree returns a copy of a tree.
func Tree(t api.Tree) api.Tree {
	t.Nodes = slices.Clone(t.Nodes)
	return t
}

// Hierarchy returns a copy of a hierarchy.
func Hierarchy(h api.Hierarchy) api.Hierarchy {
	h.Tree = Tree(h.Tree)
	h.Tasks = slices.Clone(h.Tasks)
	return h
}
