// Package graft: folder trees, the steps from one to another, and replicas that grow together: see DOC.md.
package graft

import (
	"graft/api"
	"graft/logs"
	"graft/plans"
	"graft/steps"
	"graft/trees"
)

// Check tells whether a text is a tree (P3).
func Check(tree string) (api.Errno, int) {
	_, e, at := trees.Read(tree)
	return e, at
}

// Apply does the steps of a script in a tree (P4).
func Apply(tree string, script string) (string, int, api.Errno) {
	// A script that is too long comes ahead of every fault of the tree.
	if len(tree) > api.MaxText || len(script) > api.MaxText {
		return "", 0, api.ErrLong
	}
	t, e, at := trees.Read(tree)
	if e != api.OK {
		return "", at, e
	}
	list, formed := steps.Read(script)
	if !formed {
		return "", len(list), api.ErrStep
	}
	e, at = steps.DoAll(list, &t)
	if e != api.OK {
		return "", at, e
	}
	return t.Text(), 0, api.OK
}

// Compile finds the steps from one tree to another (P5 to P7).
func Compile(from string, to string) (string, api.Errno) {
	// A second tree that is too long comes ahead of every fault of the first.
	if len(from) > api.MaxText || len(to) > api.MaxText {
		return "", api.ErrLong
	}
	start, e, _ := trees.Read(from)
	if e != api.OK {
		return "", e
	}
	goal, e, _ := trees.Read(to)
	if e != api.OK {
		return "", e
	}
	list := plans.Make(start, goal)
	return steps.Text(list), api.OK
}

// Replica is a log of ops, and the site that makes some of them.
type Replica struct {
	site int
	log  logs.Log
}

// New makes a replica with an empty log (P8).
func New(site int) (*Replica, api.Errno) {
	if site < 1 || site > api.MaxSite {
		return nil, api.ErrSite
	}
	return &Replica{site: site}, api.OK
}

// Deliver takes ops that were made elsewhere (P9).
func (r *Replica) Deliver(ops string) (int, api.Errno) {
	if len(ops) > api.MaxText {
		return 0, api.ErrLong
	}
	list, formed := logs.Read(ops)
	if !formed {
		return 0, api.ErrOp
	}
	return r.log.Join(list)
}

// Log writes the log down (P10).
func (r *Replica) Log() string { return r.log.Text() }

// Export shows the tree (P10).
func (r *Replica) Export() string {
	view := r.log.View()
	return view.Text()
}

// Ingest takes a tree as it now is, and makes the ops that lead to it (P11).
func (r *Replica) Ingest(tree string) (string, api.Errno) {
	goal, e, _ := trees.Read(tree)
	if e != api.OK {
		return "", e
	}
	made, e := r.log.Reach(goal, r.site)
	if e != api.OK {
		return "", e
	}
	return logs.Text(made), api.OK
}
