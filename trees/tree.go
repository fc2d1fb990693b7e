package trees

import "graft/api"

// Tree is a set of nodes, each found at its ID.
type Tree struct {
	here  [api.MaxId + 1]bool
	nodes [api.MaxId + 1]Node
}

// Has tells whether the tree has the node id.
func (t *Tree) Has(id int) bool {
	return id >= 1 && id <= api.MaxId && t.here[id]
}

// At answers the ID of the node at a place, or Root if there is none.
func (t *Tree) At(parent int, name string) int {
	for id := 1; id <= api.MaxId; id++ {
		if t.here[id] && t.nodes[id].Parent == parent && t.nodes[id].Name == name {
			return id
		}
	}
	return api.Root
}

// Text writes the tree as a text.
func (t *Tree) Text() string {
	text := ""
	for id := 1; id <= api.MaxId; id++ {
		if t.here[id] {
			text += t.nodes[id].Text()
		}
	}
	return text
}

func (t *Tree) put(n Node) {
	if n.Id >= 1 && n.Id <= api.MaxId {
		t.here[n.Id] = true
		t.nodes[n.Id] = n
	}
}

func (t *Tree) remove(id int) {
	if t.Has(id) {
		t.here[id] = false
		t.nodes[id] = Node{}
	}
}

// isParent tells whether nodes may stand under id.
func (t *Tree) isParent(id int) bool {
	return id == api.Root || (IsFolder(id) && t.Has(id))
}

// hasKids tells whether id is the parent of a node.
func (t *Tree) hasKids(id int) bool {
	for kid := 1; kid <= api.MaxId; kid++ {
		if t.here[kid] && t.nodes[kid].Parent == id {
			return true
		}
	}
	return false
}

// meets tells whether goal is start, or is met by going up from it.
func (t *Tree) meets(start int, goal int) bool {
	id := start
	// No way up to Root is longer than MaxId: one that goes on is a loop, and comes to nothing new.
	for i := 0; i <= api.MaxId; i++ {
		if id == goal {
			return true
		}
		if !t.Has(id) {
			return false
		}
		id = t.nodes[id].Parent
	}
	return false
}
