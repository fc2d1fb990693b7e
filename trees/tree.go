package trees

import "graft/api"

// Tree is a set of nodes, each found at its ID.
type Tree struct {
	here  [api.MaxId + 1]bool
	nodes [api.MaxId + 1]Node
}

// Has tells whether the tree has the node id.
func (t *Tree) Has(id int) bool {
	return id >= 1 && id <= api.MaxId && t.here[id]
}

// Get answers the node id, or a node without an ID if the tree does not have it.
func (t *Tree) Get(id int) Node {
	if !t.Has(id) {
		return Node{}
	}
	return t.nodes[id]
}

// At answers the ID of the node at a place, or Root if there is none.
func (t *Tree) At(parent int, name string) int {
	for id := 1; id <= api.MaxId; id++ {
		if t.here[id] && t.nodes[id].Parent == parent && t.nodes[id].Name == name {
			return id
		}
	}
	return api.Root
}

// Text writes the tree as a text.
func (t *Tree) Text() string {
	text := ""
	for id := 1; id <= api.MaxId; id++ {
		if t.here[id] {
			text += t.nodes[id].Text()
		}
	}
	return text
}

// IsParent tells whether nodes may stand under id.
func (t *Tree) IsParent(id int) bool {
	return id == api.Root || (IsFolder(id) && t.Has(id))
}

// Kid answers the first node whose parent is id, or Root if there is none.
func (t *Tree) Kid(id int) int {
	for kid := 1; kid <= api.MaxId; kid++ {
		if t.here[kid] && t.nodes[kid].Parent == id {
			return kid
		}
	}
	return api.Root
}

// Meets tells whether goal is start, or is met by going up from it.
func (t *Tree) Meets(start int, goal int) bool {
	id := start
	// No way up to Root is longer than MaxId: one that goes on is a loop, and comes to nothing new.
	for i := 0; i <= api.MaxId; i++ {
		if id == goal {
			return true
		}
		if !t.Has(id) {
			return false
		}
		id = t.nodes[id].Parent
	}
	return false
}

// Put gives a node its place, and does not ask whether a tree allows it.
func (t *Tree) Put(n Node) {
	if n.Id >= 1 && n.Id <= api.MaxId {
		t.here[n.Id] = true
		t.nodes[n.Id] = n
	}
}

func (t *Tree) remove(id int) {
	if t.Has(id) {
		t.here[id] = false
		t.nodes[id] = Node{}
	}
}
