package graft_test

import (
	"fmt"
	"strings"
	"testing"

	"graft/api"
	"graft/graft"
)

func wantCheck(t *testing.T, tree string, e api.Errno, at int) {
	t.Helper()
	gotE, gotAt := graft.Check(tree)
	if gotE != e || gotAt != at {
		t.Errorf("P3: Check(%.80q) = %d, %d, want %d, %d", tree, gotE, gotAt, e, at)
	}
}

// longest: as many nodes as there can be, with the longest records.
func longest() string {
	s := "1 98 abcdefgh~1;"
	for id := 2; id <= api.MaxId; id++ {
		parent := 98
		if id == 98 {
			parent = 0
		}
		s += fmt.Sprintf("%d %d abcdefgh~%d;", id, parent, id)
	}
	return s
}

// chain: all folders, each below the next, the last below top.
func chain(top int) string {
	s := ""
	for id := 2; id < 98; id += 2 {
		s += fmt.Sprintf("%d %d d;", id, id+2)
	}
	return s + fmt.Sprintf("98 %d d;", top)
}

func TestP3Trees(t *testing.T) {
	for _, tree := range []string{
		"",
		"2 0 docs;3 2 a.txt;",
		"2 0 a~2;",
		"1 0 a;",
		"99 0 a;",
		"2 4 a;4 0 b;",             // a parent may stand behind
		"1 98 x;98 0 y;",           // and far behind
		"2 0 a;3 2 a;4 2 b;5 4 a;", // a name may be had once under each parent
		"2 0 a;3 0 a~3;5 0 a~5;",
		"2 0 abcdefgh;",
		"2 0 abcdefgh~2;",
		"12 0 .0z~12;",
		longest(),
		chain(0),
	} {
		wantCheck(t, tree, api.OK, 0)
	}
}

func TestP3Long(t *testing.T) {
	wantCheck(t, strings.Repeat("2 0 aaa;", 500), api.ErrOrder, 1) // MaxText bytes
	wantCheck(t, strings.Repeat("2 0 aaa;", 500)+"x", api.ErrLong, 0)
	wantCheck(t, "2 0 a;"+strings.Repeat("x", api.MaxText-6), api.ErrForm, 1)
	wantCheck(t, "2 0 a;"+strings.Repeat("x", api.MaxText-5), api.ErrLong, 0)
	wantCheck(t, strings.Repeat("x", 1000000), api.ErrLong, 0)
}

func TestP3Form(t *testing.T) {
	for _, record := range []string{
		// records
		";", " ;", "x;", "5;", "5 0;", "5 0 ;", "5 0  ;", "5 0 b c;", "5  0 b;", "5 0  b;", " 5 0 b;", "5 0 b ;", "5\t0 b;", "5 0\tb;", "5,0,b;", "+5 0 b;", "=5 0 b;", "-5;", "5 0 b\n;",
		// without a `;`
		"5 0 b", "5", " ", "\n", "\x00",
		// IDs
		"0 0 b;", "100 0 b;", "999 0 b;", "05 0 b;", "-5 0 b;", "+5 0 b;", "5. 0 b;", "5: 0 b;", "5/ 0 b;", "x 0 b;", "0x5 0 b;", "18446744073709551621 0 b;", "4294967301 0 b;", " 0 b;",
		// parents
		"5 00 b;", "5 02 b;", "5 100 b;", "5 -0 b;", "5 +2 b;", "5 -2 b;", "5 x b;", "5  b;", "5 18446744073709551616 b;",
		// names
		"5 0 bcdefghij;", "5 0 bcdefghij~5;", "5 0 B;", "5 0 b_c;", "5 0 b-c;", "5 0 -;", "5 0 b/c;", "5 0 b`;", "5 0 b{;", "5 0 b:;", "5 0 \u00e9;", "5 0 \xff;", "5 0 b\x00;",
		"5 0 ~;", "5 0 ~5;", "5 0 b~;", "5 0 b~2;", "5 0 b~05;", "5 0 b~55;", "5 0 b~5~5;", "5 0 b~5c;", "5 0 b~~5;", "5 0 b~ 5;", "5 0 b~+5;", "15 0 b~5;",
	} {
		wantCheck(t, record, api.ErrForm, 0)
		wantCheck(t, "2 0 a;3 2 b;"+record, api.ErrForm, 2)
	}
	wantCheck(t, "2 0 a;;x;", api.ErrForm, 1)
}

func TestP3Order(t *testing.T) {
	wantCheck(t, "3 0 a;2 0 b;", api.ErrOrder, 1)
	wantCheck(t, "2 0 a;2 0 a;", api.ErrOrder, 1)
	wantCheck(t, "2 0 a;9 0 b;10 0 c;9 0 d;8 0 e;", api.ErrOrder, 3)
	wantCheck(t, "2 0 a;9 0 b;4 0 c;5 0 d;", api.ErrOrder, 2)
	wantCheck(t, "10 0 a;9 0 b;", api.ErrOrder, 1) // numbers, not texts
	wantCheck(t, "9 0 a;10 0 b;", api.OK, 0)
}

func TestP3Parent(t *testing.T) {
	wantCheck(t, "3 0 a;5 3 b;", api.ErrParent, 1)
	wantCheck(t, "2 4 a;", api.ErrParent, 0)
	wantCheck(t, "3 3 a;", api.ErrParent, 0)
	wantCheck(t, "1 99 a;99 0 b;", api.ErrParent, 0)
	wantCheck(t, "2 0 a;3 2 b;5 98 c;7 96 d;", api.ErrParent, 2)
	wantCheck(t, chain(96)+"99 97 a;", api.ErrParent, 49)
}

func TestP3Loop(t *testing.T) {
	wantCheck(t, "2 2 a;", api.ErrLoop, 0)
	wantCheck(t, "2 4 a;4 2 b;", api.ErrLoop, 0)
	wantCheck(t, "2 0 a;4 6 b;6 8 b;8 4 b;", api.ErrLoop, 1)
	wantCheck(t, "2 0 a;3 8 b;6 8 b;8 6 b;", api.ErrLoop, 1) // 3 is not in the loop, but below it
	wantCheck(t, "2 0 a;3 2 b;98 98 c;", api.ErrLoop, 2)
	wantCheck(t, chain(2), api.ErrLoop, 0)
	wantCheck(t, chain(98), api.ErrLoop, 0)
}

func TestP3Twice(t *testing.T) {
	wantCheck(t, "2 0 a;3 0 a;", api.ErrTwice, 1)
	wantCheck(t, "2 0 a;3 2 b;4 2 c;5 4 b;6 2 c;7 2 b;", api.ErrTwice, 4)
	wantCheck(t, "1 98 x;2 98 y;97 98 x;98 0 x;", api.ErrTwice, 2)
}

// The rules go ahead of the records: an earlier rule's later record wins.
func TestP3FirstRule(t *testing.T) {
	wantCheck(t, "3 0 a;2 0 b;x;", api.ErrForm, 2)
	wantCheck(t, "2 9 a;3 0 a;4 0 a;2 0 c;", api.ErrOrder, 3)
	wantCheck(t, "2 4 a;4 2 b;5 0 c;7 0 c;9 5 d;", api.ErrParent, 4)
	wantCheck(t, "3 0 a;5 0 a;6 6 b;", api.ErrLoop, 2)
	wantCheck(t, "2 4 a;3 4 a;4 2 b;", api.ErrLoop, 0)
}
