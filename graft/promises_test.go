package graft_test

import (
	"math/rand"
	"strings"
	"testing"

	"graft/api"
	"graft/graft"
)

// odd: texts of every length class and content that a record may be mistaken at.
func odd() []string {
	list := []string{"", ";", " ", "~", "-", "+", "=", "\x00", "\xff", "\u00e9;", ";;;", "   ;", "2", "2 ", "2 0", "2 0 ", "2 0 a", "-2", "+2 0 a", "=2 0 a", "~;", "2 0 ~;", "2 0 a~;", "-;"}
	for _, c := range []string{"x", ";", " ", "9", "~", "-", "+", "\x00", "2 0 a;", "+2 0 a;", "-2;"} {
		for _, n := range []int{99, 100, 101, api.MaxText - 1, api.MaxText, api.MaxText + 1, 100000} {
			list = append(list, strings.Repeat(c, n/len(c)), strings.Repeat(c, n)[:n])
		}
	}
	return list
}

// mayTell: an error has no other result than its place.
func mayTell(t *testing.T, tree string, script string) {
	t.Helper()
	e, at := graft.Check(tree)
	if at < 0 || (at != 0 && (e == api.OK || e == api.ErrLong)) {
		t.Errorf("P1: Check(%.60q) = %d, %d", tree, e, at)
	}
	out, at, e := graft.Apply(tree, script)
	if at < 0 || (at != 0 && (e == api.OK || e == api.ErrLong)) || (e != api.OK && out != "") {
		t.Errorf("P1: Apply(%.60q, %.60q) = %.60q, %d, %d", tree, script, out, at, e)
	}
}

func TestP1OddTexts(t *testing.T) {
	list := odd()
	for _, a := range list {
		mayTell(t, a, a)
		mayTell(t, "2 0 a;", a)
		mayTell(t, "2 0 a;"+a, "-2;"+a)
	}
}

// Every text of up to five of these bytes, as a tree and as a script: all ways to begin a record and to leave it unfinished.
func TestP1ShortTexts(t *testing.T) {
	const bytes = "20 a~;+-"
	texts := []string{""}
	for length := 0; length < 5; length++ {
		var longer []string
		for _, s := range texts {
			mayTell(t, s, s)
			for i := 0; i < len(bytes); i++ {
				longer = append(longer, s+bytes[i:i+1])
			}
		}
		texts = longer
	}
	for _, s := range texts {
		mayTell(t, s, s)
	}
}

func TestP1RandomBytes(t *testing.T) {
	r := rand.New(rand.NewSource(1))
	for i := 0; i < 2000; i++ {
		b := make([]byte, r.Intn(200))
		r.Read(b)
		mayTell(t, string(b), string(b))
		mayTell(t, "", string(b))
	}
}

func TestP1FirstNamed(t *testing.T) {
	// A text that breaks every rule answers the first, and so on down the list.
	wantCheck(t, strings.Repeat("3 9 a;2 2 a;2 2 a;x", 300), api.ErrLong, 0)
	wantCheck(t, "3 9 a;2 2 a;2 2 a;x", api.ErrForm, 3)
	wantCheck(t, "3 9 a;2 2 a;2 2 a;", api.ErrOrder, 1)
	wantCheck(t, "2 2 a;4 2 a;5 9 a;", api.ErrParent, 2)
	wantCheck(t, "2 2 a;4 2 a;", api.ErrLoop, 0)
	wantCheck(t, "2 0 a;4 0 a;", api.ErrTwice, 1)
	wantFault(t, "x", strings.Repeat("x", api.MaxText+1), 0, api.ErrLong)
	wantFault(t, "2 0 a;x", "-9;x", 1, api.ErrForm)
	wantFault(t, "2 0 a;", "-9;x", 1, api.ErrStep)
	wantFault(t, "2 0 a;", "-9;", 0, api.ErrMissing)
}

// What was asked before, and how often, changes no answer.
func TestP2ArgumentsAlone(t *testing.T) {
	type answer struct {
		checkE, applyE   api.Errno
		checkAt, applyAt int
		out              string
	}
	ask := func(tree string, script string) answer {
		var a answer
		a.checkE, a.checkAt = graft.Check(tree)
		a.out, a.applyAt, a.applyE = graft.Apply(tree, script)
		return a
	}
	r := rand.New(rand.NewSource(2))
	var pairs [][2]string
	for i := 0; i < 500; i++ {
		pairs = append(pairs, [2]string{realTree(r), someScript(r)}, [2]string{someTree(r), damaged(r, someScript(r))})
	}
	var first []answer
	for _, p := range pairs {
		first = append(first, ask(p[0], p[1]))
	}
	for _, i := range r.Perm(len(pairs)) {
		for again := 0; again < 2; again++ {
			if got := ask(pairs[i][0], pairs[i][1]); got != first[i] {
				t.Errorf("P2: of %q and %q first %v, then %v", pairs[i][0], pairs[i][1], first[i], got)
			}
		}
	}
}
