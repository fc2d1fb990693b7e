package graft_test

import (
	"maps"
	"strconv"
	"testing"

	"graft/api"
	"graft/graft"
)

// The document's words on steps home, parks and waiting (P6, P7), to hold scripts against.

// homes answers for each node that has a step home that step's kind.
func homes(from map[int]place, to map[int]place) map[int]byte {
	kinds := map[int]byte{}
	for id := range from {
		if _, both := to[id]; !both {
			kinds[id] = '-'
		}
	}
	for id, p := range to {
		old, both := from[id]
		if !both {
			kinds[id] = '+'
		} else if old != p {
			kinds[id] = '='
		}
	}
	return kinds
}

// waits answers the nodes for whose steps home that of id waits.
func waits(from map[int]place, to map[int]place, kinds map[int]byte, id int) []int {
	var list []int
	for other := range kinds {
		there := kinds[other]
		standsThere := other != id && there != '+' && from[other] == to[id]
		above := modelBelow(to, to[id].parent, other)
		wait := false
		switch kinds[id] {
		case '+':
			wait = standsThere || there == '+' && to[id].parent == other
		case '=':
			wait = standsThere || there != '-' && above
		case '-':
			wait = there != '+' && from[other].parent == id
		}
		if wait {
			list = append(list, other)
		}
	}
	return list
}

// isTangled tells whether a step home waits for itself over others: what waits for nothing is taken out until nothing changes.
func isTangled(from map[int]place, to map[int]place) bool {
	kinds := homes(from, to)
	left := maps.Clone(kinds)
	for again := true; again; {
		again = false
		for id := range left {
			free := true
			for _, other := range waits(from, to, kinds, id) {
				_, waiting := left[other]
				free = free && !waiting
			}
			if free {
				delete(left, id)
				again = true
			}
		}
	}
	return len(left) > 0
}

// anyHome answers a node whose step home could be done in the tree as it is, or 0.
func anyHome(tree map[int]place, to map[int]place, left map[int]byte) int {
	for id, kind := range left {
		if modelStep(maps.Clone(tree), kind, id, to[id]) == api.OK {
			return id
		}
	}
	return 0
}

// wantPlan holds the script of Compile against P6 and P7, word by word, and answers how many parks it has.
func wantPlan(t *testing.T, fromText string, toText string) int {
	t.Helper()
	script, e := graft.Compile(fromText, toText)
	again, _ := graft.Compile(fromText, toText)
	if e != api.OK || script != again {
		t.Fatalf("P5: Compile(%q, %q) = %q, %d, then %q", fromText, toText, script, e, again)
	}
	from, _, _ := modelCheck(fromText)
	to, _, _ := modelCheck(toText)
	tree, left, parks := maps.Clone(from), homes(from, to), 0
	fault := func(record string, what string) {
		t.Helper()
		t.Fatalf("Compile(%q, %q) = %q: %q %s", fromText, toText, script, record, what)
	}
	for _, record := range modelRecords(script) {
		kind, id, p, formed := modelStepForm(record)
		if !formed {
			fault(record, "is no step (P6)")
		}
		if left[id] == kind && to[id] == p {
			delete(left, id)
		} else {
			parks++
			park := place{0, "t~" + strconv.Itoa(id)}
			if kind != '=' || p != park || left[id] != '=' {
				fault(record, "is neither a step home that is still to come nor a park ahead of one (P6)")
			}
			if tree[id] == park {
				fault(record, "moves a node to where it stands (P6)")
			}
			if other := anyHome(tree, to, left); other != 0 {
				fault(record, "is a park, but "+strconv.Itoa(other)+" could go home (P6)")
			}
		}
		if e := modelStep(tree, kind, id, p); e != api.OK {
			fault(record, "cannot be done (P6)")
		}
	}
	if len(left) > 0 || !maps.Equal(tree, to) {
		fault(modelText(tree), "comes out (P6)")
	}
	if parks > 0 && !isTangled(from, to) {
		fault(script, "has a park, but no step home waits for itself (P7)")
	}
	return parks
}
