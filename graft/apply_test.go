package graft_test

import (
	"strings"
	"testing"

	"graft/api"
	"graft/graft"
)

func wantTree(t *testing.T, tree string, script string, out string) {
	t.Helper()
	got, at, e := graft.Apply(tree, script)
	if got != out || at != 0 || e != api.OK {
		t.Errorf("P4: Apply(%.80q, %.80q) = %.80q, %d, %d, want %.80q, 0, 0", tree, script, got, at, e, out)
	}
}

func wantFault(t *testing.T, tree string, script string, at int, e api.Errno) {
	t.Helper()
	got, gotAt, gotE := graft.Apply(tree, script)
	if got != "" || gotAt != at || gotE != e {
		t.Errorf("P4: Apply(%.80q, %.80q) = %.80q, %d, %d, want \"\", %d, %d", tree, script, got, gotAt, gotE, at, e)
	}
}

func TestP4Trees(t *testing.T) {
	wantTree(t, "", "", "")
	wantTree(t, longest(), "", longest())
	wantTree(t, chain(0), "", chain(0))
	wantTree(t, "2 0 a;", "+3 2 x;=3 0 y;-2;", "3 0 y;")
}

func TestP4Create(t *testing.T) {
	wantTree(t, "", "+4 0 a;+2 4 a;+3 2 a;+99 0 b~99;+1 0 b;", "1 0 b;2 4 a;3 2 a;4 0 a;99 0 b~99;")
	wantTree(t, "2 0 a;", "-2;+2 0 b;", "2 0 b;")
	wantFault(t, "2 0 a;", "+2 0 b;", 0, api.ErrHere)
	wantFault(t, "2 0 a;", "+3 0 b;+3 0 c;", 1, api.ErrHere)
	wantFault(t, "2 0 a;", "+3 4 b;", 0, api.ErrParent)
	wantFault(t, "3 0 a;", "+5 3 b;", 0, api.ErrParent)
	wantFault(t, "", "+2 2 b;", 0, api.ErrParent)
	wantFault(t, "2 0 a;", "-2;+3 2 b;", 1, api.ErrParent)
	wantFault(t, "2 0 a;", "+3 0 a;", 0, api.ErrTwice)
	wantFault(t, "2 0 a;", "+3 2 a;+4 2 a;", 1, api.ErrTwice)
}

func TestP4Move(t *testing.T) {
	wantTree(t, "2 0 a;", "=2 0 a;", "2 0 a;")
	wantTree(t, "2 0 a;", "=2 0 abcdefgh~2;", "2 0 abcdefgh~2;")
	wantTree(t, "2 0 a;3 2 b;4 0 c;", "=2 4 z;", "2 4 z;3 2 b;4 0 c;")
	wantTree(t, "2 0 a;4 0 b;", "=2 0 t~2;=4 0 a;=2 0 b;", "2 0 b;4 0 a;")
	wantTree(t, "2 0 a;4 2 b;6 4 c;", "=6 0 c;=2 6 a;", "2 6 a;4 2 b;6 0 c;")
	wantTree(t, "2 0 a;4 2 b;6 4 c;", "=6 2 c;", "2 0 a;4 2 b;6 2 c;") // up, below the same folder
	wantFault(t, "", "=2 0 a;", 0, api.ErrMissing)
	wantFault(t, "2 0 a;", "-2;=2 0 a;", 1, api.ErrMissing)
	wantFault(t, "2 0 a;", "=2 4 b;", 0, api.ErrParent)
	wantFault(t, "2 0 a;3 0 b;", "=2 3 b;", 0, api.ErrParent)
	wantFault(t, "2 0 a;", "=2 2 b;", 0, api.ErrLoop)
	wantFault(t, "2 0 a;4 2 b;6 4 c;", "=2 6 x;", 0, api.ErrLoop)
	wantFault(t, chain(0), "=98 2 x;", 0, api.ErrLoop)
	wantFault(t, "2 0 a;4 2 b;", "=4 0 c;=2 4 a;=4 2 b;", 2, api.ErrLoop)
	wantFault(t, "2 0 a;3 0 b;", "=3 0 a;", 0, api.ErrTwice)
	wantFault(t, "2 0 a;3 0 b;4 2 b;", "=3 2 b;", 0, api.ErrTwice)
}

func TestP4Delete(t *testing.T) {
	wantTree(t, "2 0 a;3 2 b;5 0 c;", "-3;-2;", "5 0 c;")
	wantTree(t, "2 0 a;3 2 b;", "=3 0 b;-2;", "3 0 b;")
	wantTree(t, "2 0 a;4 2 b;", "-4;+4 0 a~4;", "2 0 a;4 0 a~4;")
	wantTree(t, "2 0 a;", "-2;+4 0 a;", "4 0 a;") // its place is free again
	wantFault(t, "", "-2;", 0, api.ErrMissing)
	wantFault(t, "2 0 a;", "-2;-2;", 1, api.ErrMissing)
	wantFault(t, "2 0 a;3 2 b;", "-2;", 0, api.ErrKids)
	wantFault(t, "2 0 a;", "+3 2 b;-2;-3;", 1, api.ErrKids)
}

func TestP4FirstErrorOfStep(t *testing.T) {
	wantFault(t, "2 0 a;", "+2 9 a;", 0, api.ErrHere)
	wantFault(t, "2 0 a;", "+2 0 a;", 0, api.ErrHere)
	wantFault(t, "2 0 a;", "=3 9 a;", 0, api.ErrMissing)
	wantFault(t, "2 0 a;", "=3 0 a;", 0, api.ErrMissing)
	wantFault(t, "", "=2 2 a;", 0, api.ErrMissing)
	wantFault(t, "3 0 a;", "=3 3 a;", 0, api.ErrParent) // a file below itself
	wantFault(t, "2 0 a;4 2 b;6 4 b;", "=2 4 b;", 0, api.ErrLoop)
	wantFault(t, "2 0 a;4 2 b;", "=2 2 b;", 0, api.ErrLoop)
	wantFault(t, "2 0 a;3 2 b;", "+4 0 x;+4 0 x;-2;", 1, api.ErrHere)
}

func TestP4Step(t *testing.T) {
	for _, record := range []string{
		";", " ;", "x;", "+;", "=;", "-;", "2 0 b;", "*5 0 b;", "++5 0 b;", "--5;", "+-5;", " +5 0 b;", "+ 5 0 b;", "- 5;", "-5 ;", "-5 0 b;", "-5 0;", "+5;", "+5 0;", "=5;", "=5 0 ;",
		"+5 0 b", "=5 0 b", "-5", "+", "-", " ", "\n",
		"-0;", "-05;", "-100;", "-18446744073709551618;", "--2;", "-+2;", "-x;", "-5.;",
		"+0 0 b;", "+100 0 b;", "+05 0 b;", "+5 00 b;", "+5 100 b;", "+5 0 B;", "+5 0 b~2;", "=5 0 b~05;", "+5 0 ~5;", "+5 0 -;", "=5 100 -;", "+5 0 abcdefghi;", "=5 0 b c;", "=5  0 b;",
	} {
		wantFault(t, "2 0 a;", record, 0, api.ErrStep)
		wantFault(t, "2 0 a;", "-2;-2;"+record, 2, api.ErrStep) // ahead of the second step's error
	}
	wantFault(t, "", "+2 0 a;;x;", 1, api.ErrStep)
}

func TestP4Long(t *testing.T) {
	script := strings.Repeat("=2 0 aa;", 499)
	wantTree(t, "2 0 a;", script+"=2 0 ab;", "2 0 ab;") // MaxText bytes
	wantFault(t, "2 0 a;", script+"=2 0 abc;", 0, api.ErrLong)
	wantFault(t, strings.Repeat("x", api.MaxText+1), "", 0, api.ErrLong)
	wantFault(t, "x", strings.Repeat("x", api.MaxText+1), 0, api.ErrLong)
	wantFault(t, "2 0 a;3 0 a;", strings.Repeat("x", api.MaxText+1), 0, api.ErrLong)
	wantFault(t, "2 0 a;", strings.Repeat(";", 1000000), 0, api.ErrLong)
	wantFault(t, "2 0 a;", strings.Repeat(";", api.MaxText), 0, api.ErrStep)
}

func TestP4TreeAheadOfScript(t *testing.T) {
	wantFault(t, "2 0 a;x", "x", 1, api.ErrForm)
	wantFault(t, "3 0 a;2 0 b;", "x", 1, api.ErrOrder)
	wantFault(t, "2 0 a;3 0 b;5 3 b;", "-9;", 2, api.ErrParent)
	wantFault(t, "2 0 a;4 6 a;6 4 a;", "x", 1, api.ErrLoop)
	wantFault(t, "2 0 a;3 2 a;4 0 a;", "-4;", 2, api.ErrTwice)
}
