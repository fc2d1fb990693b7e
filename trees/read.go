package trees

import (
	"graft/api"
	"graft/records"
)

// Read reads a tree. If the text is none, it answers the rule that is broken and the number of the record that breaks it.
func Read(text string) (Tree, api.Errno, int) {
	if len(text) > api.MaxText {
		return Tree{}, api.ErrLong, 0
	}
	list := records.Cut(text)
	nodes := readNodes(list)
	if len(nodes) < len(list) {
		return Tree{}, api.ErrForm, len(nodes)
	}
	at := firstUnordered(nodes)
	if at < len(nodes) {
		return Tree{}, api.ErrOrder, at
	}
	t := gather(nodes)
	e, at := t.firstMisplaced(nodes)
	if e != api.OK {
		return Tree{}, e, at
	}
	return t, api.OK, 0
}

// readNodes reads records up to the first that has not the form of a node.
func readNodes(list []string) []Node {
	var nodes []Node
	for _, record := range list {
		body, closed := records.Body(record)
		n, formed := ReadNode(body)
		if !closed || !formed {
			return nodes
		}
		nodes = append(nodes, n)
	}
	return nodes
}

func gather(nodes []Node) Tree {
	var t Tree
	for _, n := range nodes {
		t.Put(n)
	}
	return t
}

// firstMisplaced tells the first broken rule of those about places. Each goes over all nodes before the next: the order of the rules is stronger than that of the records.
func (t *Tree) firstMisplaced(nodes []Node) (api.Errno, int) {
	at := t.firstOrphan(nodes)
	if at < len(nodes) {
		return api.ErrParent, at
	}
	at = t.firstLooped(nodes)
	if at < len(nodes) {
		return api.ErrLoop, at
	}
	at = firstTwice(nodes)
	if at < len(nodes) {
		return api.ErrTwice, at
	}
	return api.OK, 0
}

// The functions below answer the number of the first node that breaks a rule, or how many nodes there are if none does.

func firstUnordered(nodes []Node) int {
	for i := 1; i < len(nodes); i++ {
		if nodes[i].Id <= nodes[i-1].Id {
			return i
		}
	}
	return len(nodes)
}

func (t *Tree) firstOrphan(nodes []Node) int {
	for i, n := range nodes {
		if !t.IsParent(n.Parent) {
			return i
		}
	}
	return len(nodes)
}

func (t *Tree) firstLooped(nodes []Node) int {
	for i, n := range nodes {
		if !t.Meets(n.Id, api.Root) {
			return i
		}
	}
	return len(nodes)
}

func firstTwice(nodes []Node) int {
	for i := range nodes {
		for j := 0; j < i; j++ {
			if nodes[j].Parent == nodes[i].Parent && nodes[j].Name == nodes[i].Name {
				return i
			}
		}
	}
	return len(nodes)
}
