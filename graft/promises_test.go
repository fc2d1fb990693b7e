package graft_test

import (
	"math/rand"
	"strings"
	"testing"

	"graft/api"
	"graft/graft"
)

// odd: texts of every length class and content that a record may be mistaken at.
func odd() []string {
	list := []string{"", ";", " ", "~", "-", "+", "=", "\x00", "\xff", "\u00e9;", ";;;", "   ;", "2", "2 ", "2 0", "2 0 ", "2 0 a", "-2", "+2 0 a", "=2 0 a", "~;", "2 0 ~;", "2 0 a~;", "-;", "1 1 2 0 a", "1 1 2 100", "1 1 2 100 ", "    ;", "1 1 1 1 1;"}
	for _, c := range []string{"x", ";", " ", "9", "~", "-", "+", "\x00", "2 0 a;", "+2 0 a;", "-2;", "1 1 2 0 a;", "1 1 2 100 -;"} {
		for _, n := range []int{99, 100, 101, api.MaxText - 1, api.MaxText, api.MaxText + 1, 100000} {
			list = append(list, strings.Repeat(c, n/len(c)), strings.Repeat(c, n)[:n])
		}
	}
	return list
}

// mayTell: an error has no other result than its place.
func mayTell(t *testing.T, tree string, script string) {
	t.Helper()
	e, at := graft.Check(tree)
	if at < 0 || (at != 0 && (e == api.OK || e == api.ErrLong)) {
		t.Errorf("P1: Check(%.60q) = %d, %d", tree, e, at)
	}
	out, at, e := graft.Apply(tree, script)
	if at < 0 || (at != 0 && (e == api.OK || e == api.ErrLong)) || (e != api.OK && out != "") {
		t.Errorf("P1: Apply(%.60q, %.60q) = %.60q, %d, %d", tree, script, out, at, e)
	}
	mayCompile(t, tree, script)
	mayCompile(t, tree, "2 0 b;3 2 a;")
	mayCompile(t, "2 0 b;3 2 a;", tree)
	mayDeliver(t, script)
	mayIngest(t, tree)
}

func mayCompile(t *testing.T, from string, to string) {
	t.Helper()
	out, e := graft.Compile(from, to)
	if e < api.OK || e > api.ErrTwice || (e != api.OK && out != "") {
		t.Errorf("P1: Compile(%.60q, %.60q) = %.60q, %d", from, to, out, e)
	}
}

func mayDeliver(t *testing.T, ops string) {
	t.Helper()
	r, _ := graft.New(1)
	n, e := r.Deliver(ops)
	if n < 0 || (e != api.OK && (n != 0 || r.Log() != "" || r.Export() != "")) {
		t.Errorf("P1: Deliver(%.60q) = %d, %d, and Log is %.60q", ops, n, e, r.Log())
	}
	if e != api.OK && e != api.ErrLong && e != api.ErrOp && e != api.ErrFull {
		t.Errorf("P1: Deliver(%.60q) = %d, %d", ops, n, e)
	}
}

// mayIngest: an error is one of those that are named, and has no ops.
func mayIngest(t *testing.T, tree string) {
	t.Helper()
	for _, log := range []string{"", "1 1 2 0 a;2 1 4 0 a;3 1 5 100 -;"} {
		r, _ := graft.New(1)
		r.Deliver(log)
		made, e := r.Ingest(tree)
		if e != api.OK && (made != "" || r.Log() != log) {
			t.Errorf("P1: Ingest(%.60q) = %.60q, %d, and Log is %.60q", tree, made, e, r.Log())
		}
		if check, _ := graft.Check(tree); e != check && (e != api.ErrUsed || log == "") {
			t.Errorf("P1: Ingest(%.60q) = %.60q, %d", tree, made, e)
		}
	}
}

func TestP1OddTexts(t *testing.T) {
	list := odd()
	for _, a := range list {
		mayTell(t, a, a)
		mayTell(t, "2 0 a;", a)
		mayTell(t, "2 0 a;"+a, "-2;"+a)
		mayDeliver(t, "1 1 2 0 a;"+a)
		mayDeliver(t, "1 1 2 0 "+a)
		mayIngest(t, "2 0 a;"+a)
		mayIngest(t, "2 0 "+a)
	}
}

// Every text of up to five of these bytes, as a tree and as a script: all ways to begin a record and to leave it unfinished.
func TestP1ShortTexts(t *testing.T) {
	const bytes = "20 a~;+-"
	texts := []string{""}
	for length := 0; length < 5; length++ {
		var longer []string
		for _, s := range texts {
			mayTell(t, s, s)
			for i := 0; i < len(bytes); i++ {
				longer = append(longer, s+bytes[i:i+1])
			}
		}
		texts = longer
	}
	for _, s := range texts {
		mayTell(t, s, s)
	}
}

func TestP1RandomBytes(t *testing.T) {
	r := rand.New(rand.NewSource(1))
	for i := 0; i < 2000; i++ {
		b := make([]byte, r.Intn(200))
		r.Read(b)
		mayTell(t, string(b), string(b))
		mayTell(t, "", string(b))
	}
}

func TestP1FirstNamed(t *testing.T) {
	// A text that breaks every rule answers the first, and so on down the list.
	wantCheck(t, strings.Repeat("3 9 a;2 2 a;2 2 a;x", 300), api.ErrLong, 0)
	wantCheck(t, "3 9 a;2 2 a;2 2 a;x", api.ErrForm, 3)
	wantCheck(t, "3 9 a;2 2 a;2 2 a;", api.ErrOrder, 1)
	wantCheck(t, "2 2 a;4 2 a;5 9 a;", api.ErrParent, 2)
	wantCheck(t, "2 2 a;4 2 a;", api.ErrLoop, 0)
	wantCheck(t, "2 0 a;4 0 a;", api.ErrTwice, 1)
	wantFault(t, "x", strings.Repeat("x", api.MaxText+1), 0, api.ErrLong)
	wantFault(t, "2 0 a;x", "-9;x", 1, api.ErrForm)
	wantFault(t, "2 0 a;", "-9;x", 1, api.ErrStep)
	wantFault(t, "2 0 a;", "-9;", 0, api.ErrMissing)
	wantRefused(t, "x", strings.Repeat("x", api.MaxText+1), api.ErrLong)
	wantRefused(t, "2 0 a;4 0 a;", "x", api.ErrTwice)
	wantRefused(t, "2 0 a;", "2 2 a;x", api.ErrForm)
	full := newReplica(t, 1)
	wantDelivered(t, full, row(1, api.MaxLog), api.MaxLog, api.OK)
	wantDelivered(t, full, strings.Repeat("1 2 2 0 a;x", 400), 0, api.ErrLong)
	wantDelivered(t, full, "1 2 2 0 a;x", 0, api.ErrOp)
	wantDelivered(t, full, "1 2 2 0 a;", 0, api.ErrFull)
}

// What was asked before, and how often, changes no answer.
func TestP2ArgumentsAlone(t *testing.T) {
	type question struct {
		tree, script, to string
	}
	type answer struct {
		checkE, applyE, compileE api.Errno
		checkAt, applyAt         int
		out, steps               string
	}
	ask := func(q question) answer {
		var a answer
		a.checkE, a.checkAt = graft.Check(q.tree)
		a.out, a.applyAt, a.applyE = graft.Apply(q.tree, q.script)
		a.steps, a.compileE = graft.Compile(q.tree, q.to)
		return a
	}
	r := rand.New(rand.NewSource(2))
	var list []question
	for i := 0; i < 500; i++ {
		list = append(list, question{realTree(r), someScript(r), realTree(r)}, question{someTree(r), damaged(r, someScript(r)), someTree(r)})
	}
	var first []answer
	for _, q := range list {
		first = append(first, ask(q))
	}
	for _, i := range r.Perm(len(list)) {
		for again := 0; again < 2; again++ {
			if got := ask(list[i]); got != first[i] {
				t.Errorf("P2: of %q first %v, then %v", list[i], first[i], got)
			}
		}
	}
}
