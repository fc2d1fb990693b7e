package logs

import (
	"graft/api"
	"graft/plans"
	"graft/steps"
	"graft/trees"
)

// Reach makes the ops of a site by which the log comes to show the goal, takes them into the log, and answers them. If that cannot be done, it takes none.
func (l *Log) Reach(goal trees.Tree, site int) ([]Op, api.Errno) {
	view := l.View()
	if l.isUsed(&view, &goal) {
		return nil, api.ErrUsed
	}
	way := l.wayTo(view, goal)
	if len(l.ops)+len(way) > api.MaxLog {
		return nil, api.ErrFull
	}
	last := l.lastCount()
	if last+len(way) > api.MaxCount {
		return nil, api.ErrCount
	}
	made := stamped(way, last, site)
	for _, op := range made {
		l.insert(op)
	}
	return made, api.OK
}

// isUsed tells whether the goal has a node that the view lacks, but of which the log speaks. To place such a node could show others with it that lie below it unseen.
func (l *Log) isUsed(view *trees.Tree, goal *trees.Tree) bool {
	for id := 1; id <= api.MaxId; id++ {
		wanted := goal.Has(id)
		shown := view.Has(id)
		if wanted && !shown && l.speaksOf(id) {
			return true
		}
	}
	return false
}

// speaksOf tells whether the node id is an op's own or its parent.
func (l *Log) speaksOf(id int) bool {
	for _, op := range l.ops {
		if op.Node.Id == id || op.Node.Parent == id {
			return true
		}
	}
	return false
}

// wayTo answers the places that nodes get one behind the other, from the view to the goal.
func (l *Log) wayTo(view trees.Tree, goal trees.Tree) []trees.Node {
	way := l.renamed(&view)
	list := plans.Make(view, goal)
	for _, s := range list {
		n := placeBehind(s)
		way = append(way, n)
	}
	return way
}

// renamed answers the nodes of the view that are not shown with their name by the log, as they are shown.
// Their names must be laid down: else such a node gets its bare name back as soon as the other leaves the place that they share.
func (l *Log) renamed(view *trees.Tree) []trees.Node {
	places := l.places()
	var list []trees.Node
	for id := 1; id <= api.MaxId; id++ {
		n := view.Get(id)
		placed := places.Get(id)
		if view.Has(id) && n != placed {
			list = append(list, n)
		}
	}
	return list
}

// placeBehind answers the place that a node has behind a step.
func placeBehind(s steps.Step) trees.Node {
	if s.Kind == steps.Delete {
		return trees.Node{Id: s.Node.Id, Parent: api.Trash, Name: noName}
	}
	return s.Node
}

// lastCount answers the greatest count of the log, or 0 if the log is empty.
func (l *Log) lastCount() int {
	if len(l.ops) == 0 {
		return 0
	}
	return l.ops[len(l.ops)-1].Count
}

// stamped makes an op of each place, with the counts behind last.
func stamped(way []trees.Node, last int, site int) []Op {
	var list []Op
	for i, n := range way {
		list = append(list, Op{Count: last + 1 + i, Site: site, Node: n})
	}
	return list
}
