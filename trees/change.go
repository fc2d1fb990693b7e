package trees

import "graft/api"

// Create gives the tree a new node.
func (t *Tree) Create(n Node) api.Errno {
	if t.Has(n.Id) {
		return api.ErrHere
	}
	if !t.IsParent(n.Parent) {
		return api.ErrParent
	}
	if t.At(n.Parent, n.Name) != api.Root {
		return api.ErrTwice
	}
	t.Put(n)
	return api.OK
}

// Move gives a node of the tree another place.
func (t *Tree) Move(n Node) api.Errno {
	if !t.Has(n.Id) {
		return api.ErrMissing
	}
	if !t.IsParent(n.Parent) {
		return api.ErrParent
	}
	if t.Meets(n.Parent, n.Id) {
		return api.ErrLoop
	}
	other := t.At(n.Parent, n.Name)
	if other != api.Root && other != n.Id {
		return api.ErrTwice
	}
	t.Put(n)
	return api.OK
}

// Delete takes a node out of the tree.
func (t *Tree) Delete(id int) api.Errno {
	if !t.Has(id) {
		return api.ErrMissing
	}
	if t.Kid(id) != api.Root {
		return api.ErrKids
	}
	t.remove(id)
	return api.OK
}
