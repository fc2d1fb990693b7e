package plans

import (
	"graft/api"
	"graft/steps"
	"graft/trees"
)

// The functions of this file are for a plan of which no step home can be done.

// knot answers a node with a move home that waits for itself over others, or Root if no step home is left.
// To park a node that merely waits for such ones would set nothing free.
func (p *plan) knot() int {
	id := p.firstAway()
	// From anywhere one is in a circle as soon as one has gone on as often as there are nodes.
	for i := 0; i < api.MaxId; i++ {
		id = p.blocker(id)
	}
	// A circle has a move: creations alone wait only for folders above them, deletions alone only for nodes below them.
	for i := 0; i < api.MaxId; i++ {
		s, _ := p.home(id)
		if s.Kind == steps.Move {
			return id
		}
		id = p.blocker(id)
	}
	return api.Root
}

// firstAway answers the first node that is not home, or Root.
func (p *plan) firstAway() int {
	for id := 1; id <= api.MaxId; id++ {
		_, away := p.home(id)
		if away {
			return id
		}
	}
	return api.Root
}

// blocker answers a node that is not home and that keeps id from going home.
// If it has a move home, it is not parked: it stands at a place that another wants, or below a node.
func (p *plan) blocker(id int) int {
	s, _ := p.home(id)
	switch s.Kind {
	case steps.Create, steps.Move:
		return p.inTheWay(s.Node)
	case steps.Delete:
		return p.now.Kid(id)
	}
	return api.Root
}

// inTheWay answers a node that keeps n from its place.
func (p *plan) inTheWay(n trees.Node) int {
	if !p.now.IsParent(n.Parent) {
		return n.Parent
	}
	if p.now.Meets(n.Parent, n.Id) {
		return p.firstAwayFrom(n.Parent)
	}
	return p.now.At(n.Parent, n.Name)
}

// firstAwayFrom answers the first node that is not home, of id and those met by going up from it, or Root.
func (p *plan) firstAwayFrom(id int) int {
	for i := 0; i < api.MaxId; i++ {
		_, away := p.home(id)
		if away {
			return id
		}
		id = p.now.Get(id).Parent
	}
	return api.Root
}
