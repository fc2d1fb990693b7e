package graft_test

import (
	"fmt"
	"strings"
	"testing"

	"graft/api"
	"graft/graft"
)

// behind: a replica of this site that has these ops.
func behind(t *testing.T, site int, ops string) *graft.Replica {
	t.Helper()
	r := newReplica(t, site)
	if _, e := r.Deliver(ops); e != api.OK {
		t.Fatalf("P9: Deliver(%.80q): %d", ops, e)
	}
	return r
}

// wantMade hands a tree to a replica, and wants these ops at the end of its log and the tree as its view.
func wantMade(t *testing.T, r *graft.Replica, tree string, made string) {
	t.Helper()
	log := r.Log()
	got, e := r.Ingest(tree)
	if got != made || e != api.OK {
		t.Errorf("P11: behind %.80q: Ingest(%.80q) = %.200q, %d, want %.200q, 0", log, tree, got, e, made)
	}
	wantBehind(t, r, log, tree, got)
}

// wantBehind wants what an Ingest that answered OK leaves behind, here and where the ops are handed on to.
func wantBehind(t *testing.T, r *graft.Replica, log string, tree string, made string) {
	t.Helper()
	if r.Log() != log+made {
		t.Errorf("P11: behind Ingest(%.80q): Log is %.200q, want %.200q", tree, r.Log(), log+made)
	}
	other := behind(t, 9, log)
	other.Deliver(made)
	if r.Export() != tree || other.Export() != tree {
		t.Errorf("P12: behind %.80q and Ingest(%.80q): Export is %.80q here, %.80q there", log, tree, r.Export(), other.Export())
	}
	if again, e := r.Ingest(tree); again != "" || e != api.OK || r.Log() != log+made {
		t.Errorf("P11: the same tree again: %.80q, %d", again, e)
	}
}

// wantNotTaken hands a tree to a replica, and wants the error and an unchanged replica.
func wantNotTaken(t *testing.T, r *graft.Replica, tree string, e api.Errno) {
	t.Helper()
	log, view := r.Log(), r.Export()
	made, gotE := r.Ingest(tree)
	if made != "" || gotE != e {
		t.Errorf("P11: behind %.80q: Ingest(%.80q) = %.80q, %d, want \"\", %d", log, tree, made, gotE, e)
	}
	if r.Log() != log || r.Export() != view {
		t.Errorf("P2: behind %.80q: Ingest(%.80q) = %d, but Log is %.80q, Export %.80q", log, tree, gotE, r.Log(), r.Export())
	}
}

func TestP11Examples(t *testing.T) {
	r := newReplica(t, 1)
	wantMade(t, r, "2 0 a;3 2 x;", "1 1 2 0 a;2 1 3 2 x;")
	wantMade(t, r, "", "3 1 3 100 -;4 1 2 100 -;")
	wantNotTaken(t, r, "2 0 a;", api.ErrUsed)
	wantMade(t, behind(t, 1, "1 1 2 0 a;1 2 4 0 a;"), "2 0 b;4 0 a~4;", "2 1 4 0 a~4;3 1 2 0 b;")
}

func TestP11Steps(t *testing.T) {
	const log = "1 1 2 0 a;2 1 3 2 x;"
	for _, c := range []struct{ log, tree, made string }{
		{"", "", ""},
		{log, "2 0 a;3 2 x;", ""},
		{log, "2 0 a;3 2 x;5 2 y;", "3 6 5 2 y;"},
		{log, "2 0 b;3 2 x;", "3 6 2 0 b;"},
		{log, "2 0 a;3 0 x;", "3 6 3 0 x;"},
		{log, "2 0 a;3 2 x~3;", "3 6 3 2 x~3;"},
		{log, "2 0 a;", "3 6 3 100 -;"},
		{log, "", "3 6 3 100 -;4 6 2 100 -;"},
		{log, "3 0 x;", "3 6 3 0 x;4 6 2 100 -;"},
		{log, "3 0 a;", "3 6 3 0 t~3;4 6 2 100 -;5 6 3 0 a;"}, // with a park
		{log, "2 4 a;3 2 x;4 0 a;", "3 6 2 0 t~2;4 6 4 0 a;5 6 2 4 a;"},
		{"1 1 2 0 a;2 1 4 2 b;", "2 4 a;4 0 b;", "3 6 4 0 b;4 6 2 4 a;"},
		{"1 1 98 0 abcdefgh;2 1 99 98 abcdefgh;", "98 0 abcdefgh~98;99 98 abcdefgh;", "3 6 98 0 abcdefgh~98;"},
	} {
		wantMade(t, behind(t, 6, c.log), c.tree, c.made)
	}
}

func TestP11Stamps(t *testing.T) {
	for site := 1; site <= api.MaxSite; site++ {
		wantMade(t, newReplica(t, site), "3 0 a;", fmt.Sprintf("1 %d 3 0 a;", site))
		// One above the greatest count, of whatever site, and wherever in the text the op stood.
		r := behind(t, site, "41 5 2 0 a;7 9 3 0 b;41 4 5 0 c;")
		wantMade(t, r, "2 0 d;3 0 b;5 0 c;", fmt.Sprintf("42 %d 2 0 d;", site))
	}
	r := behind(t, 2, "9 1 2 2 a;") // an op that does nothing counts too
	wantMade(t, r, "3 0 a;", "10 2 3 0 a;")
	wantMade(t, r, "3 0 b;", "11 2 3 0 b;")
	wantDelivered(t, r, "20 1 5 0 c;", 1, api.OK)
	wantMade(t, r, "3 0 a;5 0 c;", "21 2 3 0 a;")
	wantDelivered(t, r, "4 1 5 0 d;", 1, api.OK) // a lesser count changes nothing
	wantMade(t, r, "3 0 b;5 0 c;", "22 2 3 0 b;")
}

func TestP11ShownNames(t *testing.T) {
	const three = "1 1 6 0 a;1 2 4 0 a;1 3 2 0 a;"
	// The shown names come first, in rising order of IDs, whatever becomes of the nodes.
	wantMade(t, behind(t, 1, three), "2 0 a;4 0 a~4;6 0 a~6;", "2 1 4 0 a~4;3 1 6 0 a~6;")
	wantMade(t, behind(t, 1, three), "4 0 a~4;6 0 a~6;", "2 1 4 0 a~4;3 1 6 0 a~6;4 1 2 100 -;")
	wantMade(t, behind(t, 1, three), "2 0 a;6 0 a~6;", "2 1 4 0 a~4;3 1 6 0 a~6;4 1 4 100 -;")
	wantMade(t, behind(t, 1, three), "2 0 a;4 0 a~4;6 0 b;", "2 1 4 0 a~4;3 1 6 0 a~6;4 1 6 0 b;")
	wantMade(t, behind(t, 1, "1 1 2 0 a;1 2 4 0 a;"), "4 0 a;", "2 1 4 0 a~4;3 1 2 100 -;4 1 4 0 a;")
	// Those alone that are not shown with their name by the log.
	wantMade(t, behind(t, 1, "1 1 2 0 a;1 2 4 0 a~4;"), "2 0 b;4 0 a~4;", "2 1 2 0 b;")
	wantMade(t, behind(t, 1, "1 1 2 0 a~2;1 2 4 0 a;"), "2 0 b;4 0 a;", "2 1 2 0 b;")
	wantMade(t, behind(t, 1, "1 1 2 0 a;2 1 4 2 a;3 1 5 2 a;4 1 7 4 a;"), "2 0 a;4 2 a;5 2 a~5;7 4 a;", "5 1 5 2 a~5;")
	// Nodes that are not shown have none.
	wantMade(t, behind(t, 1, "1 1 2 8 a;2 1 4 8 a;3 1 3 100 -;4 1 5 100 -;5 1 6 0 a;"), "6 0 b;", "6 1 6 0 b;")
	wantMade(t, behind(t, 1, "1 1 2 0 a;2 1 4 0 a;3 1 2 100 -;"), "4 0 a;", "")
	// Laid down once, they are names by the log.
	r := behind(t, 1, three)
	wantMade(t, r, "2 0 a;4 0 a~4;6 0 a~6;", "2 1 4 0 a~4;3 1 6 0 a~6;")
	wantMade(t, r, "4 0 a~4;6 0 a~6;", "4 1 2 100 -;")
	wantDelivered(t, r, "5 2 4 0 b;5 3 6 0 b;", 2, api.OK)
	wantMade(t, r, "4 0 b;6 0 b~6;", "6 1 6 0 b~6;")
}

func TestP11Used(t *testing.T) {
	for _, c := range []struct{ log, tree string }{
		// as ID
		{"1 1 2 100 -;", "2 0 a;"},
		{"1 1 99 100 -;", "99 0 a;"},
		{"1 1 1 100 -;", "1 0 a;"},
		{"1 1 2 0 a;2 1 2 100 -;", "2 0 a;"},
		{"1 1 2 4 a;", "2 0 a;"},                       // under a node without a place
		{"1 1 2 2 a;", "2 0 a;"},                       // by an op that does nothing
		{"1 1 2 0 a;2 1 3 2 b;3 1 2 100 -;", "3 0 b;"}, // went along to Trash
		{"1 1 5 0 a;2 1 3 100 -;", "3 0 b;5 0 a;"},     // beside a node of the view
		{"1 1 3 100 -;", "2 0 a;3 2 b;4 0 c;"},         // beside new nodes
		{"1 1 2 0 a;2 1 4 2 b;3 1 2 4 c;4 1 4 100 -;", "2 0 a;4 0 b;"},
		// as PARENT
		{"1 1 2 4 a;", "4 0 a;"},
		{"1 1 3 98 a;", "98 0 a;"},
		{"1 1 2 4 a;2 1 2 0 a;", "2 0 a;4 0 b;"}, // by an op that was overtaken
		{"1 1 2 4 a;2 1 2 100 -;", "4 0 a;"},
		{"1 1 3 4 a;2 1 3 6 a;", "6 0 a;"},
		// both
		{"1 1 2 4 a;", "2 4 a;4 0 b;"},
	} {
		wantNotTaken(t, behind(t, 3, c.log), c.tree, api.ErrUsed)
	}
}

func TestP11NotUsed(t *testing.T) {
	// Counts, sites, Root and Trash are no nodes; and of 1 nobody speaks who speaks of 12, 10 and 100.
	wantMade(t, behind(t, 1, "4 6 2 0 a;"), "2 0 a;4 0 b;6 0 c;", "5 1 4 0 b;6 1 6 0 c;")
	wantMade(t, behind(t, 1, "1 1 12 10 a;2 1 12 100 -;"), "1 0 a;", "3 1 1 0 a;")
	wantMade(t, behind(t, 1, "1 1 2 4 a;"), "6 0 a;", "2 1 6 0 a;")
	// Nodes of the view may be spoken of; those that the tree lacks, too.
	wantMade(t, behind(t, 1, "1 1 2 0 a;2 1 3 2 b;3 1 4 0 c;4 1 5 100 -;"), "2 0 a;3 2 c;", "5 1 3 2 c;6 1 4 100 -;")
	wantMade(t, behind(t, 1, "1 1 2 100 -;"), "", "")
	wantMade(t, behind(t, 1, "1 1 2 100 -;2 1 2 0 a;"), "2 0 b;", "3 1 2 0 b;") // back from Trash
}

func TestP11TreeErrors(t *testing.T) {
	for _, c := range []struct {
		tree string
		e    api.Errno
	}{
		{strings.Repeat("x", api.MaxText+1), api.ErrLong},
		{strings.Repeat("2 0 a;", 100000), api.ErrLong},
		{strings.Repeat("x", api.MaxText), api.ErrForm},
		{"x", api.ErrForm},
		{";", api.ErrForm},
		{"2 0 a", api.ErrForm},
		{"2 0 a~4;", api.ErrForm},
		{"2 100 -;", api.ErrForm},
		{"1 1 2 0 a;", api.ErrForm},
		{"+2 0 a;", api.ErrForm},
		{"2 0 b;2 0 a;", api.ErrOrder},
		{"2 0 a;5 4 b;", api.ErrParent},
		{"2 4 a;4 2 b;", api.ErrLoop},
		{"2 0 a;3 0 a;", api.ErrTwice},
	} {
		wantNotTaken(t, newReplica(t, 1), c.tree, c.e)
		wantNotTaken(t, behind(t, 1, "1 1 2 0 a;2 1 4 0 a;"), c.tree, c.e)
		// Ahead of everything that the log might say.
		wantNotTaken(t, behind(t, 1, "1 1 2 100 -;2 1 3 4 a;"), c.tree, c.e)
		wantNotTaken(t, behind(t, 1, row(9850, 9999)), c.tree, c.e)
	}
}

func TestP11Full(t *testing.T) {
	r := behind(t, 2, row(1, api.MaxLog-2))
	wantNotTaken(t, r, "2 0 b;3 0 a;5 0 c;", api.ErrFull)
	wantMade(t, r, "2 0 a;3 0 b;", "149 2 3 0 b;")
	wantNotTaken(t, r, "", api.ErrFull)
	wantMade(t, r, "2 0 a;", "150 2 3 100 -;")
	wantMade(t, r, "2 0 a;", "") // nothing to make needs no room
	wantNotTaken(t, r, "2 0 b;", api.ErrFull)
	wantNotTaken(t, r, "", api.ErrFull)
	wantNotTaken(t, r, "2 0 a;5 0 b;", api.ErrFull)

	// The shown names take room too, and parks.
	wantNotTaken(t, behind(t, 2, row(1, api.MaxLog-1)+"1 2 4 0 a;"), "2 0 a;4 0 a~4;", api.ErrFull)
	wantMade(t, behind(t, 2, row(1, api.MaxLog-2)+"1 2 4 0 a;"), "2 0 a;4 0 a~4;", "149 2 4 0 a~4;")
	wantNotTaken(t, behind(t, 2, row(1, api.MaxLog-2)+"1 2 4 0 a;"), "4 0 a~4;", api.ErrFull)
	wantNotTaken(t, behind(t, 2, row(1, api.MaxLog-3)+"1 2 3 2 a;"), "3 0 a;", api.ErrFull)
	wantMade(t, behind(t, 2, row(1, api.MaxLog-4)+"1 2 3 2 a;"), "3 0 a;", "147 2 3 0 t~3;148 2 2 100 -;149 2 3 0 a;")
}

// As many nodes as there can be have room once, and their deletion has none.
func TestP11Great(t *testing.T) {
	tree, made := longest(), ""
	r := newReplica(t, 9)
	got, e := r.Ingest(tree)
	for i, record := range modelRecords(got) {
		s, op, formed := modelReadOp(record)
		if !formed || s != (stamp{i + 1, 9}) {
			t.Fatalf("P11: %q", record)
		}
		made += fmt.Sprintf("%d %d %s;", op.id, op.to.parent, op.to.name)
	}
	if e != api.OK || len(made) != len(tree) || !strings.HasPrefix(made, "98 0 ") {
		t.Errorf("P11: Ingest of 99 nodes = %q, %d", got, e)
	}
	wantBehind(t, r, "", tree, got)
	wantNotTaken(t, r, "", api.ErrFull)
}

func TestP11Count(t *testing.T) {
	wantMade(t, behind(t, 1, "9998 1 2 0 a;"), "2 0 b;", "9999 1 2 0 b;")
	wantMade(t, behind(t, 1, "9997 1 2 0 a;"), "2 0 a;3 2 b;5 2 c;", "9998 1 3 2 b;9999 1 5 2 c;")
	wantNotTaken(t, behind(t, 1, "9998 1 2 0 a;"), "2 0 a;3 2 b;5 2 c;", api.ErrCount)
	r := behind(t, 1, "9999 3 2 0 a;")
	wantMade(t, r, "2 0 a;", "")
	wantNotTaken(t, r, "2 0 b;", api.ErrCount)
	wantNotTaken(t, r, "", api.ErrCount)
	wantNotTaken(t, r, "2 0 a;3 0 b;", api.ErrCount)
	wantNotTaken(t, behind(t, 1, "9999 1 2 0 a;1 1 4 0 a;"), "2 0 a;4 0 a~4;", api.ErrCount) // for a shown name
	wantMade(t, behind(t, 1, "9998 1 2 0 a;1 1 4 0 a;"), "2 0 a;4 0 a~4;", "9999 1 4 0 a~4;")
	wantNotTaken(t, behind(t, 1, "9999 1 2 2 a;"), "3 0 a;", api.ErrCount) // an op that does nothing counts too
}

// Of several errors the one that is named first.
func TestP11FirstNamed(t *testing.T) {
	full := row(9850, 9998) + "9999 1 3 100 -;"
	wantNotTaken(t, behind(t, 1, full), "2 0 b;3 0 b;", api.ErrTwice)
	wantNotTaken(t, behind(t, 1, full), "2 0 b;3 0 c;", api.ErrUsed)
	wantNotTaken(t, behind(t, 1, full), "2 0 b;", api.ErrFull)
	wantNotTaken(t, behind(t, 1, row(9851, 9999)), "2 0 b;3 0 a;", api.ErrFull)
	wantNotTaken(t, behind(t, 1, row(9851, 9999)), "2 0 b;", api.ErrCount)
	wantNotTaken(t, behind(t, 1, "9999 1 3 100 -;"), "3 0 a;", api.ErrUsed)
}

// What was laid below a node that is not shown stays unseen, whatever is done beside it.
func TestP12Unseen(t *testing.T) {
	r := behind(t, 5, "1 1 3 8 a;2 1 2 0 a;3 1 4 2 b;4 1 5 4 c;5 1 2 100 -;6 1 6 0 a;7 1 7 6 c;")
	wantMade(t, r, "6 0 b;7 6 c;", "8 5 6 0 b;")
	wantMade(t, r, "6 0 b;7 0 a;", "9 5 7 0 a;")
	wantMade(t, r, "7 0 a;", "10 5 6 100 -;")
	wantMade(t, r, "", "11 5 7 100 -;")
	wantMade(t, r, "9 0 a;10 0 b;", "12 5 9 0 a;13 5 10 0 b;")
	wantNotTaken(t, r, "8 0 a;", api.ErrUsed) // 3 lies below it
}

// Two replicas that edit one tree at once and hand each other what they made.
func TestP12TwoHands(t *testing.T) {
	x, y := newReplica(t, 1), newReplica(t, 2)
	wantMade(t, x, "2 0 a;4 0 b;", "1 1 2 0 a;2 1 4 0 b;")
	wantDelivered(t, y, x.Log(), 2, api.OK)
	wantMade(t, x, "2 4 a;4 0 b;", "3 1 2 4 a;")
	wantMade(t, y, "2 0 a;4 2 b;", "3 2 4 2 b;")
	wantDelivered(t, y, x.Log(), 1, api.OK)
	wantDelivered(t, x, y.Log(), 1, api.OK)
	const log = "1 1 2 0 a;2 1 4 0 b;3 1 2 4 a;3 2 4 2 b;"
	wantShown(t, x, log, "2 4 a;4 0 b;")
	wantShown(t, y, log, "2 4 a;4 0 b;")
	wantMade(t, x, "2 4 a;3 0 c;4 0 b;", "4 1 3 0 c;")
	wantMade(t, y, "2 4 a;4 0 b;5 0 c;", "4 2 5 0 c;")
	wantDelivered(t, y, x.Log(), 1, api.OK)
	wantDelivered(t, x, y.Log(), 1, api.OK)
	wantShown(t, x, y.Log(), "2 4 a;3 0 c;4 0 b;5 0 c~5;")
	wantMade(t, y, "2 4 a;4 0 b;5 0 c~5;", "5 2 5 0 c~5;6 2 3 100 -;")
}
