package logs

import (
	"strconv"

	"graft/api"
	"graft/trees"
)

// places answers the places by the log. They are no tree yet: a node may stand under one that has no place, or in Trash, and two may share a place.
func (l *Log) places() trees.Tree {
	var places trees.Tree
	for _, op := range l.ops {
		if !places.Meets(op.Node.Parent, op.Node.Id) {
			places.Put(op.Node)
		}
	}
	return places
}

// View answers the tree that the log shows.
func (l *Log) View() trees.Tree {
	places := l.places()
	var view trees.Tree
	for id := 1; id <= api.MaxId; id++ {
		// A node without a place meets nothing above it.
		if places.Meets(id, api.Root) {
			n := shown(&places, id)
			view.Put(n)
		}
	}
	return view
}

// shown answers a node of the view as it is shown. The nodes that share its place are in the view too, as they share its parent.
func shown(places *trees.Tree, id int) trees.Node {
	n := places.Get(id)
	// Of the nodes at a place At answers the one with the least ID: it alone keeps the bare name.
	if places.At(n.Parent, n.Name) != id {
		n.Name += "~" + strconv.Itoa(id)
	}
	return n
}
