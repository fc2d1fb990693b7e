package graft_test

import (
	"fmt"
	"strings"
	"testing"

	"graft/api"
	"graft/graft"
)

func newReplica(t *testing.T, site int) *graft.Replica {
	t.Helper()
	r, e := graft.New(site)
	if r == nil || e != api.OK {
		t.Fatalf("P8: New(%d) = %v, %d", site, r, e)
	}
	return r
}

// wantDelivered hands ops to a replica, and wants it unchanged if they are refused or none is new.
func wantDelivered(t *testing.T, r *graft.Replica, ops string, n int, e api.Errno) {
	t.Helper()
	log, view := r.Log(), r.Export()
	gotN, gotE := r.Deliver(ops)
	if gotN != n || gotE != e {
		t.Errorf("P9: Deliver(%.80q) = %d, %d, want %d, %d", ops, gotN, gotE, n, e)
	}
	if gotN == 0 && (r.Log() != log || r.Export() != view) {
		t.Errorf("P2, P9: Deliver(%.80q) = 0, %d, but it changed the replica: %.80q, %.80q", ops, gotE, r.Log(), r.Export())
	}
}

func wantShown(t *testing.T, r *graft.Replica, log string, view string) {
	t.Helper()
	if got := r.Log(); got != log {
		t.Errorf("P10: Log is %q, want %q", got, log)
	}
	if got := r.Export(); got != view {
		t.Errorf("P10: behind %q: Export is %q, want %q", log, got, view)
	}
}

// wantView delivers a log that is written in its order: as it is, op by op, and op by op from the last to the first.
func wantView(t *testing.T, log string, view string) {
	t.Helper()
	list := modelRecords(log)
	whole, forth, back := newReplica(t, 1), newReplica(t, 5), newReplica(t, 9)
	wantDelivered(t, whole, log, len(list), api.OK)
	for i := range list {
		wantDelivered(t, forth, list[i], 1, api.OK)
		wantDelivered(t, back, list[len(list)-1-i], 1, api.OK)
	}
	for _, r := range []*graft.Replica{whole, forth, back} {
		wantShown(t, r, log, view)
	}
	wantCheck(t, view, api.OK, 0)
}

// row: ops of node 2 with the counts from first to last.
func row(first int, last int) string {
	s := ""
	for count := first; count <= last; count++ {
		s += fmt.Sprintf("%d 1 2 0 a;", count)
	}
	return s
}

func TestP8Sites(t *testing.T) {
	for _, site := range []int{-1 << 63, -1 << 32, -10, -9, -2, -1, 0, 10, 11, 99, 100, 256, 257, 1<<32 + 1, 1 << 62, 1<<63 - 1} {
		if r, e := graft.New(site); r != nil || e != api.ErrSite {
			t.Errorf("P8: New(%d) = %v, %d", site, r, e)
		}
	}
	for site := 1; site <= api.MaxSite; site++ {
		wantShown(t, newReplica(t, site), "", "")
	}
}

func TestP9Ops(t *testing.T) {
	for _, op := range []string{
		"1 1 1 0 a;", "9999 9 99 98 abcdefgh~99;", "10 5 50 2 .;", "9 9 9 0 9;", "1000 1 10 0 a~10;",
		"1 1 2 2 a;",  // under itself: an op, though it does nothing
		"1 1 3 98 a;", // under a folder that no op has placed
		"1 1 2 100 -;", "1 1 1 100 -;", "9999 9 99 100 -;",
	} {
		r := newReplica(t, 3)
		wantDelivered(t, r, op, 1, api.OK)
		if r.Log() != op {
			t.Errorf("P10: Log is %q, want %q", r.Log(), op)
		}
	}
	wantDelivered(t, newReplica(t, 3), "", 0, api.OK)
}

func TestP9NoOps(t *testing.T) {
	for _, record := range []string{
		// records
		";", " ;", "x;", "1;", "1 1;", "1 1 2;", "1 1 2 0;", "1 1 2 0 ;", "1 1 2 0  ;", "1 1 2 0 a b;", "1 1 2 0 a ;", " 1 1 2 0 a;", "1  1 2 0 a;", "1 1 2  0 a;", "1 1 2 0  a;", "1\t1 2 0 a;", "1 1 2 0 a\n;", "\n1 1 2 0 a;", "2 0 a;", "+2 0 a;", "=2 0 a;", "-2;", "1,1,2,0,a;", "1 1 2 100;", "1 1 2 100 ;",
		// without a `;`
		"1 1 2 0 a", "1 1 2 100 -", "1 1 2", " ", "\n", "\x00",
		// counts
		"0 1 2 0 a;", "10000 1 2 0 a;", "99999 1 2 0 a;", "01 1 2 0 a;", "-1 1 2 0 a;", "+1 1 2 0 a;", "x 1 2 0 a;", "1. 1 2 0 a;", "18446744073709551617 1 2 0 a;", " 1 2 0 a;",
		// sites
		"1 0 2 0 a;", "1 10 2 0 a;", "1 01 2 0 a;", "1 -1 2 0 a;", "1 x 2 0 a;", "1  2 0 a;", "1 18446744073709551617 2 0 a;",
		// IDs
		"1 1 0 0 a;", "1 1 100 0 a;", "1 1 02 0 a;", "1 1 -2 0 a;", "1 1 x 0 a;", "1 1  0 a;", "1 1 100 100 -;", "1 1 0 100 -;",
		// parents
		"1 1 2 1 a;", "1 1 2 3 a;", "1 1 2 97 a;", "1 1 2 99 a;", "1 1 2 101 a;", "1 1 2 102 a;", "1 1 2 00 a;", "1 1 2 04 a;", "1 1 2 -2 a;", "1 1 2 -0 a;", "1 1 2 x a;", "1 1 2  a;", "1 1 2 18446744073709551616 a;", "1 1 2 99 -;", "1 1 2 101 -;", "1 1 2 0100 -;",
		// names
		"1 1 2 0 -;", "1 1 2 4 -;", "1 1 2 100 a;", "1 1 2 100 --;", "1 1 2 100 a~2;", "1 1 2 100 -~2;", "1 1 2 0 abcdefghi;", "1 1 2 0 A;", "1 1 2 0 a_;", "1 1 2 0 a-;", "1 1 2 0 ~2;", "1 1 2 0 a~;", "1 1 2 0 a~4;", "1 1 2 0 a~02;", "1 1 2 0 a~2~2;", "1 1 12 0 a~2;", "1 1 12 0 a~1;", "1 2 3 0 a~2;", "1 1 2 0 \u00e9;", "1 1 2 0 \xff;", "1 1 2 0 a\x00;",
	} {
		r := newReplica(t, 1)
		wantDelivered(t, r, "1 1 4 0 b;", 1, api.OK)
		wantDelivered(t, r, record, 0, api.ErrOp)
		wantDelivered(t, r, "5 1 6 0 c;"+record, 0, api.ErrOp)
		wantDelivered(t, r, record+"5 1 6 0 c;", 0, api.ErrOp)
		wantShown(t, r, "1 1 4 0 b;", "4 0 b;")
	}
}

func TestP9Long(t *testing.T) {
	r := newReplica(t, 1)
	wantDelivered(t, r, strings.Repeat("x", api.MaxText+1), 0, api.ErrLong)
	wantDelivered(t, r, strings.Repeat("1 1 2 0 a;", 401), 0, api.ErrLong)
	wantDelivered(t, r, strings.Repeat("x", 1000000), 0, api.ErrLong)
	wantDelivered(t, r, strings.Repeat("x", api.MaxText), 0, api.ErrOp)
	wantDelivered(t, r, strings.Repeat("1 1 2 0 a;", 400), 1, api.OK) // MaxText bytes
	wantShown(t, r, "1 1 2 0 a;", "2 0 a;")
}

func TestP9New(t *testing.T) {
	r := newReplica(t, 1)
	// The first of a stamp stays, in a text and in the log, whatever the others say.
	wantDelivered(t, r, "2 1 2 0 a;2 1 4 0 b;2 2 4 0 c;2 1 2 0 a;2 2 2 100 -;", 2, api.OK)
	wantShown(t, r, "2 1 2 0 a;2 2 4 0 c;", "2 0 a;4 0 c;")
	wantDelivered(t, r, "2 1 6 0 d;2 2 6 0 e;", 0, api.OK)
	wantDelivered(t, r, "2 2 4 0 c;1 2 6 2 d;2 1 2 0 a;", 1, api.OK)
	wantShown(t, r, "1 2 6 2 d;2 1 2 0 a;2 2 4 0 c;", "2 0 a;4 0 c;6 2 d;")
	// A stamp is both numbers: what differs in one of them is new.
	wantDelivered(t, r, "1 1 2 0 x;2 3 4 2 c;12 1 8 0 f;1 21 8 0 f;", 0, api.ErrOp)
	wantDelivered(t, r, "1 1 2 0 x;2 3 4 2 c;12 1 8 0 f;", 3, api.OK)
	wantShown(t, r, "1 1 2 0 x;1 2 6 2 d;2 1 2 0 a;2 2 4 0 c;2 3 4 2 c;12 1 8 0 f;", "2 0 a;4 2 c;6 2 d;8 0 f;")
	// Being known does not make a record an op.
	wantDelivered(t, r, "1 1 2 1 x;", 0, api.ErrOp)
}

// Ops of the replica's own site are taken as those of all others.
func TestP9OwnSite(t *testing.T) {
	r := newReplica(t, 4)
	wantDelivered(t, r, "1 4 2 0 a;3 4 2 0 b;2 5 2 0 c;", 3, api.OK)
	wantShown(t, r, "1 4 2 0 a;2 5 2 0 c;3 4 2 0 b;", "2 0 b;")
}

func TestP9Full(t *testing.T) {
	r := newReplica(t, 1)
	wantDelivered(t, r, row(1, api.MaxLog+1), 0, api.ErrFull)
	wantDelivered(t, r, row(1, api.MaxLog+1)+"x", 0, api.ErrOp)
	wantDelivered(t, r, row(2, api.MaxLog), api.MaxLog-1, api.OK)
	wantDelivered(t, r, row(1, 1)+row(api.MaxLog+1, api.MaxLog+1), 0, api.ErrFull)
	wantDelivered(t, r, row(1, 1)+row(1, 100)+row(1, 1), 1, api.OK) // what is not new takes no room
	wantDelivered(t, r, row(1, api.MaxLog), 0, api.OK)
	wantDelivered(t, r, row(api.MaxLog+1, api.MaxLog+1), 0, api.ErrFull)
	wantDelivered(t, r, "1 2 2 0 b;", 0, api.ErrFull)
	wantDelivered(t, r, "", 0, api.OK)
	wantShown(t, r, row(1, api.MaxLog), "2 0 a;")
	wantView(t, row(1, api.MaxLog), "2 0 a;")
}

// The longest log is no longer than a text may be, so that it can be handed on whole.
func TestP9LongestLog(t *testing.T) {
	log := ""
	for i := 0; i < api.MaxLog; i++ {
		id := 10 + i%90
		parent := 98
		if id == 98 {
			parent = 96
		}
		log += fmt.Sprintf("%d %d %d %d abcdefgh~%d;", 9000+i, 1+i%9, id, parent, id)
	}
	wantView(t, log, "")
	wantDelivered(t, newReplica(t, 2), log+"9999 9 1 0 abcdefgh~1;", 0, api.ErrFull)
}

func TestP10Order(t *testing.T) {
	r := newReplica(t, 9)
	wantDelivered(t, r, "10 1 2 0 j;9 9 2 0 i;1000 1 2 0 l;2 2 2 0 c;2 1 2 0 b;100 1 2 0 k;1 9 2 0 a;2 10 2 0 x;", 0, api.ErrOp)
	wantDelivered(t, r, "10 1 2 0 j;9 9 2 0 i;1000 1 2 0 l;2 2 2 0 c;2 1 2 0 b;100 1 2 0 k;1 9 2 0 a;", 7, api.OK)
	wantShown(t, r, "1 9 2 0 a;2 1 2 0 b;2 2 2 0 c;9 9 2 0 i;10 1 2 0 j;100 1 2 0 k;1000 1 2 0 l;", "2 0 l;")
}

func TestP10Examples(t *testing.T) {
	r := newReplica(t, 2)
	wantDelivered(t, r, "2 1 3 2 x;", 1, api.OK)
	wantShown(t, r, "2 1 3 2 x;", "")
	wantDelivered(t, r, "1 1 2 0 a;2 1 3 2 x;", 1, api.OK)
	wantShown(t, r, "1 1 2 0 a;2 1 3 2 x;", "2 0 a;3 2 x;")
	wantView(t, "1 1 2 0 a;2 1 4 0 b;3 1 2 4 a;3 2 4 2 b;", "2 4 a;4 0 b;")
	wantView(t, "1 1 2 0 a;2 1 4 0 b;2 2 4 2 b;3 1 2 4 a;", "2 0 a;4 2 b;")
	wantView(t, "1 1 2 0 a;1 2 4 0 a;", "2 0 a;4 0 a~4;")
}

func TestP10Places(t *testing.T) {
	wantView(t, "1 1 2 2 a;", "")
	wantView(t, "1 1 2 0 a;2 1 2 2 b;", "2 0 a;")                 // under itself: the place stays
	wantView(t, "1 1 2 0 a;2 1 3 2 x;3 1 3 0 y;", "2 0 a;3 0 y;") // the last place counts
	wantView(t, "1 1 2 4 a;2 1 4 2 b;", "")                       // loops do not come to be where nothing is shown either
	wantView(t, "1 1 2 4 a;2 1 4 2 b;3 1 4 0 c;", "2 4 a;4 0 c;")
	wantView(t, "1 1 2 4 a;2 1 4 6 b;3 1 6 2 c;4 1 6 0 d;", "2 4 a;4 6 b;6 0 d;")
	wantView(t, "1 1 2 4 a;2 1 4 100 -;3 1 4 2 b;4 1 4 0 c;", "2 4 a;4 0 c;") // nor in Trash
	// What goes up from PARENT is as it is by then: 2 has left 4 ahead of the last op.
	wantView(t, "1 1 4 0 b;2 1 2 4 a;3 1 2 0 a;4 1 4 2 b;", "2 0 a;4 2 b;")
	wantView(t, "1 1 4 0 b;2 1 2 4 a;3 1 4 2 b;4 1 2 0 a;", "2 0 a;4 0 b;")
}

func TestP10Trash(t *testing.T) {
	wantView(t, "1 1 2 100 -;", "")
	wantView(t, "1 1 2 0 a;2 1 2 100 -;", "")
	wantView(t, "1 1 2 100 -;2 1 2 0 a;", "2 0 a;")               // back from Trash
	wantView(t, "1 1 2 0 a;2 1 4 2 b;3 1 5 4 c;4 1 2 100 -;", "") // what lies below goes with it
	wantView(t, "1 1 2 0 a;2 1 4 2 b;3 1 5 4 c;4 1 2 100 -;5 1 4 0 b;", "4 0 b;5 4 c;")
	wantView(t, "1 1 2 0 a;2 1 3 2 b;3 1 2 100 -;4 1 5 2 c;5 1 2 0 d;", "2 0 d;3 2 b;5 2 c;")
	wantView(t, "1 1 3 100 -;2 1 5 100 -;3 1 7 100 -;", "") // they may all be called `-` there
}

func TestP10Names(t *testing.T) {
	wantView(t, "1 1 4 0 a;2 1 2 0 a;", "2 0 a;4 0 a~4;") // the lesser ID, not the earlier op
	wantView(t, "1 1 2 0 a;2 1 3 0 a;3 1 4 0 a;4 1 99 0 a;", "2 0 a;3 0 a~3;4 0 a~4;99 0 a~99;")
	wantView(t, "1 1 2 0 a;2 1 4 0 a;3 1 2 0 b;", "2 0 b;4 0 a;")
	wantView(t, "1 1 2 0 a;2 1 4 0 a;3 1 2 100 -;", "4 0 a;")
	wantView(t, "1 1 2 0 a;2 1 4 2 a;3 1 5 4 a;4 1 7 4 a;", "2 0 a;4 2 a;5 4 a;7 4 a~7;") // one parent each
	wantView(t, "1 1 2 6 a;2 1 4 0 a;", "4 0 a;")                                         // 2 is not in the view
	wantView(t, "1 1 8 6 a;2 1 4 6 a;3 1 6 0 b;", "4 6 a;6 0 b;8 6 a~8;")
	wantView(t, "1 1 2 0 a;2 1 4 0 a~4;", "2 0 a;4 0 a~4;") // the name by the log is another
	wantView(t, "1 1 2 0 a;2 1 4 0 a~4;3 1 6 0 a;", "2 0 a;4 0 a~4;6 0 a~6;")
	wantView(t, "1 1 2 0 a~2;2 1 4 0 a;", "2 0 a~2;4 0 a;")
	wantView(t, "1 1 98 0 abcdefgh;2 1 99 0 abcdefgh;", "98 0 abcdefgh;99 0 abcdefgh~99;")
	wantView(t, "1 1 2 0 a;2 1 12 0 a;3 1 22 0 a;", "2 0 a;12 0 a~12;22 0 a~22;")
}

// deep: ops that lay all folders below each other, 98 outermost, from the innermost on or from the outermost on.
func deep(outer bool) string {
	s := ""
	for i := 0; i < 49; i++ {
		id := 2 + 2*i
		if outer {
			id = 98 - 2*i
		}
		s += fmt.Sprintf("%d 1 %d %d d;", 1+i, id, (id+2)%100)
	}
	return s
}

func TestP10Deep(t *testing.T) {
	for _, outer := range []bool{false, true} {
		wantView(t, deep(outer), chain(0))
		wantView(t, deep(outer)+"50 1 98 2 x;", chain(0))
		wantView(t, deep(outer)+"50 1 50 2 x;51 1 96 100 -;", "98 0 d;")
	}
}

// As many nodes as there can be, all of the same name.
func TestP10Crowd(t *testing.T) {
	log, view := "", "1 0 abcdefgh;"
	for id := 1; id <= api.MaxId; id++ {
		log += fmt.Sprintf("%d 1 %d 0 abcdefgh;", id, id)
		if id > 1 {
			view += fmt.Sprintf("%d 0 abcdefgh~%d;", id, id)
		}
	}
	wantView(t, log, view)
}
