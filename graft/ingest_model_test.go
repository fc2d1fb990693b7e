package graft_test

import (
	"fmt"
	"math/rand"
	"testing"

	"graft/api"
	"graft/graft"
)

// The model of Ingest: the document's words once more, by other means. It asks Compile for the script, as they do.

func modelIngest(log map[stamp]modelOp, site int, text string) (string, api.Errno) {
	tree, e, _ := modelCheck(text)
	if e != api.OK {
		return "", e
	}
	if modelUsed(log, tree) {
		return "", api.ErrUsed
	}
	last := 0
	for s := range log {
		last = max(last, s.count)
	}
	made := modelMade(log, text)
	if len(log)+len(made) > 150 {
		return "", api.ErrFull
	}
	if len(made) > 0 && last+len(made) > 9999 {
		return "", api.ErrCount
	}
	out := ""
	for i, op := range made {
		s := stamp{last + 1 + i, site}
		log[s] = op
		out += fmt.Sprintf("%d %d %d %d %s;", s.count, s.site, op.id, op.to.parent, op.to.name)
	}
	return out, api.OK
}

func modelUsed(log map[stamp]modelOp, tree map[int]place) bool {
	view, _, _ := modelCheck(modelView(log))
	for _, op := range log {
		for _, id := range []int{op.id, op.to.parent} {
			_, wanted := tree[id]
			_, shown := view[id]
			if wanted && !shown {
				return true
			}
		}
	}
	return false
}

func modelMade(log map[stamp]modelOp, text string) []modelOp {
	var made []modelOp
	places := modelPlaces(log)
	view := modelView(log)
	for _, record := range modelRecords(view) {
		id, shown, _ := modelNode(record)
		if places[id].name != shown.name {
			made = append(made, modelOp{id, shown})
		}
	}
	script, _ := graft.Compile(view, text)
	for _, record := range modelRecords(script) {
		kind, id, to, _ := modelStepForm(record)
		if kind == '-' {
			to = place{100, "-"}
		}
		made = append(made, modelOp{id, to})
	}
	return made
}

// pair: a replica and its model.
type pair struct {
	site int
	real *graft.Replica
	log  map[stamp]modelOp
}

func newPair(t *testing.T, site int) *pair {
	t.Helper()
	return &pair{site, newReplica(t, site), map[stamp]modelOp{}}
}

func (p *pair) compare(t *testing.T) {
	t.Helper()
	if got, want := p.real.Log(), modelLog(p.log); got != want {
		t.Fatalf("P10, P11: Log is %q, want %q", got, want)
	}
	if got, want := p.real.Export(), modelView(p.log); got != want {
		t.Fatalf("P10: behind %q: Export is %q, want %q", p.real.Log(), got, want)
	}
	wantCheck(t, p.real.Export(), api.OK, 0)
}

func (p *pair) deliver(t *testing.T, ops string, seen *[16]int) {
	t.Helper()
	n, e := modelDeliver(p.log, ops)
	seen[e]++
	if gotN, gotE := p.real.Deliver(ops); gotN != n || gotE != e {
		t.Fatalf("P9: Deliver(%q) = %d, %d, want %d, %d", ops, gotN, gotE, n, e)
	}
	p.compare(t)
}

func (p *pair) ingest(t *testing.T, tree string, seen *[16]int) {
	t.Helper()
	log := modelLog(p.log)
	made, e := modelIngest(p.log, p.site, tree)
	seen[e]++
	if got, gotE := p.real.Ingest(tree); got != made || gotE != e {
		t.Fatalf("P11: site %d behind %q: Ingest(%q) = %q, %d, want %q, %d", p.site, log, tree, got, gotE, made, e)
	}
	p.compare(t)
	if e == api.OK && p.real.Export() != tree {
		t.Fatalf("P12: behind %q: Ingest(%q), but Export is %q", log, tree, p.real.Export())
	}
}

// someEdit: a tree like one that a tool might make of the view; now and then one that has nothing to do with it.
func someEdit(r *rand.Rand, view string) string {
	switch r.Intn(12) {
	case 0:
		return someTree(r)
	case 1:
		return drawn(r, shuffled(r, 10, 2), 3)
	case 2, 3:
		return damaged(r, view)
	case 4:
		return view
	case 5:
		return rearranged(r, view, 3)
	}
	return edited(r, view, 1+r.Intn(6))
}

// rearranged: the nodes of a tree at drawn places, so that they stand in each other's way.
func rearranged(r *rand.Rand, view string, names int) string {
	var ids []int
	for _, record := range modelRecords(view) {
		id, _, _ := modelNode(record)
		ids = append(ids, id)
	}
	r.Shuffle(len(ids), func(i, j int) { ids[i], ids[j] = ids[j], ids[i] })
	return drawn(r, ids, names)
}

func TestP11Model(t *testing.T) {
	r := rand.New(rand.NewSource(111))
	var seen [16]int
	for i := 0; i < 5000; i++ {
		p := newPair(t, 1+i%9)
		counts, ids := 1+r.Intn(12), 2+r.Intn(8)
		for k := 1 + r.Intn(8); k > 0; k-- {
			if r.Intn(3) == 0 {
				p.deliver(t, someOps(r, 12, counts, ids), &seen)
			}
			p.ingest(t, someEdit(r, p.real.Export()), &seen)
		}
	}
	wantSeen(t, seen, api.OK, api.ErrForm, api.ErrOrder, api.ErrParent, api.ErrLoop, api.ErrTwice, api.ErrUsed)
}

// Logs and counts up to their bounds.
func TestP11ModelBounds(t *testing.T) {
	r := rand.New(rand.NewSource(112))
	var seen [16]int
	for i := 0; i < 90; i++ {
		p := newPair(t, 1+i%9)
		for last := r.Intn(3); last > 0; last-- {
			p.deliver(t, fmt.Sprintf("%d %d 2 0 a;", 9900+r.Intn(100), 1+r.Intn(9)), &seen)
		}
		for k := 0; k < 40; k++ {
			if r.Intn(6) == 0 {
				p.deliver(t, someOps(r, 30, 60, 9), &seen)
			}
			p.ingest(t, someEdit(r, p.real.Export()), &seen)
			p.ingest(t, rearranged(r, p.real.Export(), 3), &seen)
		}
	}
	wantSeen(t, seen, api.OK, api.ErrUsed, api.ErrFull, api.ErrCount)
}

// Trees of up to as many nodes as there can be.
func TestP11ModelGreat(t *testing.T) {
	r := rand.New(rand.NewSource(113))
	var seen [16]int
	for i := 0; i < 60; i++ {
		p := newPair(t, 1+i%9)
		names := 1 + r.Intn(26)
		p.ingest(t, drawn(r, shuffled(r, api.MaxId, 40), names), &seen)
		p.deliver(t, someOps(r, 20, 120, 99), &seen)
		p.ingest(t, edited(r, p.real.Export(), 10), &seen)
		p.ingest(t, rearranged(r, p.real.Export(), names), &seen)
		p.ingest(t, "", &seen)
	}
	wantSeen(t, seen, api.OK, api.ErrFull)
}

// From every log of three of these ops to every small tree: behind OK the tree is shown, and it is refused for no other reason than ErrUsed.
func TestP12All(t *testing.T) {
	ops := []string{"2 0 a;", "2 4 a;", "2 100 -;", "4 0 a;", "4 2 a;", "3 0 a;", "3 2 a~3;", "3 4 b;"}
	trees := forms([]int{2, 3, 4}, "a", "a~")
	var seen [16]int
	for i := 0; i < len(ops)*len(ops)*len(ops); i++ {
		log := "1 1 " + ops[i%8] + "2 1 " + ops[i/8%8] + "2 2 " + ops[i/64]
		for _, tree := range trees {
			x := behind(t, 3, log)
			made, e := x.Ingest(tree)
			seen[e]++
			if (e == api.OK && (x.Export() != tree || x.Log() != log+made)) || (e == api.ErrUsed && x.Log() != log) {
				t.Fatalf("P12: behind %q: Ingest(%q) = %q, %d, Log is %q, Export %q", log, tree, made, e, x.Log(), x.Export())
			}
		}
	}
	if seen[api.OK]+seen[api.ErrUsed] != 512*len(trees) {
		t.Errorf("P11: %v", seen)
	}
	wantSeen(t, seen, api.OK, api.ErrUsed)
}

// Replicas that edit, and hand each other what they have now and then: with all of it everywhere they show the same.
func TestP12Mirrors(t *testing.T) {
	r := rand.New(rand.NewSource(120))
	var seen [16]int
	same := 0
	for i := 0; i < 300; i++ {
		side := []*pair{newPair(t, 3), newPair(t, 1), newPair(t, 2)}
		for step := 0; step < 15; step++ {
			p, other := side[r.Intn(3)], side[r.Intn(3)]
			p.ingest(t, edited(r, p.real.Export(), 2+r.Intn(6)), &seen)
			if r.Intn(2) == 0 {
				other.deliver(t, p.real.Log(), &seen)
			}
		}
		for k := 0; k < 6; k++ {
			side[k%3].deliver(t, side[(k+1)%3].real.Log(), &seen)
			side[k%3].deliver(t, side[(k+2)%3].real.Log(), &seen)
		}
		log, view := side[0].real.Log(), side[0].real.Export()
		if len(side[0].log) < 100 {
			wantShown(t, side[1].real, log, view)
			wantShown(t, side[2].real, log, view)
			same++
		}
	}
	wantSeen(t, seen, api.OK, api.ErrUsed)
	if same < 200 {
		t.Errorf("only %d times all had everything", same)
	}
}
