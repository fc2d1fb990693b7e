// Package plans finds the steps that turn one tree into another.
package plans

import (
	"strconv"

	"graft/api"
	"graft/steps"
	"graft/trees"
)

// plan is a tree on its way: as it is by now, as it shall be, and the steps that were done.
type plan struct {
	now  trees.Tree
	goal trees.Tree
	done []steps.Step
}

// Make answers the steps from one tree to another.
func Make(from trees.Tree, to trees.Tree) []steps.Step {
	p := plan{now: from, goal: to}
	// A round without a step is the last. There are fewer rounds than this: no node goes home more than once, and none is parked more than once.
	for round := 0; round <= 2*api.MaxId; round++ {
		moved := p.goHome()
		if !moved {
			moved = p.park()
		}
		if !moved {
			return p.done
		}
	}
	return p.done
}

// home answers the step that brings the node id to where it shall be, and false if it is there.
// Nothing takes a node away from there again, so what differs by now is just what is still to come.
func (p *plan) home(id int) (steps.Step, bool) {
	here := p.now.Get(id)
	there := p.goal.Get(id)
	if here == there {
		return steps.Step{}, false
	}
	if !p.goal.Has(id) {
		return steps.Step{Kind: steps.Delete, Node: trees.Node{Id: id}}, true
	}
	if !p.now.Has(id) {
		return steps.Step{Kind: steps.Create, Node: there}, true
	}
	return steps.Step{Kind: steps.Move, Node: there}, true
}

// attempt does a step, and answers false if it cannot be done.
func (p *plan) attempt(s steps.Step) bool {
	e := s.Do(&p.now)
	if e != api.OK {
		return false
	}
	p.done = append(p.done, s)
	return true
}

// goHome does steps home, in rising order of IDs, and answers false if none can be done.
func (p *plan) goHome() bool {
	moved := false
	for id := 1; id <= api.MaxId; id++ {
		s, away := p.home(id)
		if away && p.attempt(s) {
			moved = true
		}
	}
	return moved
}

// park moves a node out of the way, and answers false if nothing is in the way of anything.
func (p *plan) park() bool {
	id := p.knot()
	if id == api.Root {
		return false
	}
	place := trees.Node{Id: id, Parent: api.Root, Name: "t~" + strconv.Itoa(id)}
	return p.attempt(steps.Step{Kind: steps.Move, Node: place})
}
