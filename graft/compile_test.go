package graft_test

import (
	"fmt"
	"math/rand"
	"slices"
	"strconv"
	"strings"
	"testing"

	"graft/api"
	"graft/graft"
)

func wantScript(t *testing.T, from string, to string, scripts ...string) {
	t.Helper()
	got, e := graft.Compile(from, to)
	if e != api.OK || !slices.Contains(scripts, got) {
		t.Errorf("P6: Compile(%q, %q) = %q, %d, want one of %q", from, to, got, e, scripts)
	}
	wantPlan(t, from, to)
}

func wantRefused(t *testing.T, from string, to string, e api.Errno) {
	t.Helper()
	got, gotE := graft.Compile(from, to)
	if got != "" || gotE != e {
		t.Errorf("P5: Compile(%.60q, %.60q) = %.60q, %d, want \"\", %d", from, to, got, gotE, e)
	}
}

func TestP5Errors(t *testing.T) {
	faults := []struct {
		tree string
		e    api.Errno
	}{
		{"x", api.ErrForm},
		{"2 0 a", api.ErrForm},
		{"2 0 a~4;", api.ErrForm},
		{"+2 0 a;", api.ErrForm},
		{"2 0 a;2 0 b;", api.ErrOrder},
		{"2 0 a;5 4 b;", api.ErrParent},
		{"2 4 a;4 2 b;", api.ErrLoop},
		{"2 0 a;3 0 a;", api.ErrTwice},
	}
	long := strings.Repeat("x", api.MaxText+1)
	for _, f := range faults {
		wantRefused(t, f.tree, "", f.e)
		wantRefused(t, "", f.tree, f.e)
		wantRefused(t, f.tree, "2 0 a;", f.e)
		wantRefused(t, "2 0 a;", f.tree, f.e)
		wantRefused(t, f.tree, f.tree, f.e)
		wantRefused(t, f.tree, long, api.ErrLong)
		wantRefused(t, long, f.tree, api.ErrLong)
		for _, second := range faults {
			wantRefused(t, f.tree, second.tree, f.e) // the first tree's error, whatever the second's
		}
	}
}

func TestP5Long(t *testing.T) {
	full := strings.Repeat(";", api.MaxText)
	wantRefused(t, full, "", api.ErrForm)
	wantRefused(t, "", full, api.ErrForm)
	wantRefused(t, full+";", "", api.ErrLong)
	wantRefused(t, "", full+";", api.ErrLong)
	wantRefused(t, full+";", full+";", api.ErrLong)
	wantRefused(t, "2 0 a;", strings.Repeat("2 0 a;", 100000), api.ErrLong)
	wantScript(t, longest(), longest(), "")
}

func TestP6Examples(t *testing.T) {
	wantScript(t, "2 0 a;4 2 b;", "2 4 a;4 0 b;", "=4 0 b;=2 4 a;")
	wantScript(t, "2 0 a;3 2 x;", "3 0 a;", "=3 0 t~3;-2;=3 0 a;")
	wantScript(t, "2 0 a;4 0 b;", "2 0 b;4 0 a;", "=2 0 t~2;=4 0 a;=2 0 b;", "=4 0 t~4;=2 0 b;=4 0 a;")
	wantScript(t, "2 0 a;4 2 b;", "2 4 b;4 0 a;", "=2 0 t~2;=4 0 a;=2 4 b;", "=4 0 t~4;=2 4 b;=4 0 a;")
}

func TestP6StepsHome(t *testing.T) {
	wantScript(t, "", "", "")
	wantScript(t, "2 0 a;3 2 b;", "2 0 a;3 2 b;", "")
	wantScript(t, "", "3 0 a;", "+3 0 a;")
	wantScript(t, "3 0 a;", "", "-3;")
	wantScript(t, "3 0 a;", "3 0 b;", "=3 0 b;")
	wantScript(t, "3 0 a;", "3 0 a~3;", "=3 0 a~3;")
	wantScript(t, "1 0 a;99 0 b;", "1 0 b~1;98 0 c;99 98 a;", "=1 0 b~1;+98 0 c;=99 98 a;", "+98 0 c;=1 0 b~1;=99 98 a;", "+98 0 c;=99 98 a;=1 0 b~1;")
	wantScript(t, "2 0 a;3 2 b;", "2 0 c;3 2 b;", "=2 0 c;") // what lies below goes along
	wantScript(t, "", "2 4 a;3 2 a;4 0 a;", "+4 0 a;+2 4 a;+3 2 a;")
	wantScript(t, "2 4 a;3 2 a;4 0 a;", "", "-3;-2;-4;")
	wantScript(t, "3 0 a;", "5 0 a;", "-3;+5 0 a;")
	wantScript(t, "3 0 a;5 0 b;", "3 0 b;", "-5;=3 0 b;")
	wantScript(t, "2 0 a;3 2 b;", "3 0 b;", "=3 0 b;-2;")
	wantScript(t, "2 0 a;3 0 b;", "3 4 b;4 0 a;", "-2;+4 0 a;=3 4 b;")
}

func TestP6Parks(t *testing.T) {
	wantScript(t, "3 0 a;", "2 0 a;3 2 a;", "=3 0 t~3;+2 0 a;=3 2 a;")
	wantScript(t, "2 0 a;4 2 b;", "4 0 a;", "=4 0 t~4;-2;=4 0 a;")
	wantScript(t, "2 0 a;3 2 b;5 2 c;", "3 0 a;5 0 c;", "=5 0 c;=3 0 t~3;-2;=3 0 a;")
	wantScript(t, "1 0 a;3 0 b;", "1 0 b;3 0 a;", "=1 0 t~1;=3 0 a;=1 0 b;", "=3 0 t~3;=1 0 b;=3 0 a;")
	wantScript(t, "2 0 a;3 2 a;", "2 0 b;3 0 a;", "=2 0 b;=3 0 a;") // one waits, but none for itself
}

func TestP6OwnPark(t *testing.T) {
	wantScript(t, "2 0 t~2;", "2 0 a;", "=2 0 a;")
	wantScript(t, "2 0 a;", "2 0 t~2;", "=2 0 t~2;")
	wantScript(t, "2 0 t~2;", "2 0 t~2;", "")
	wantScript(t, "", "2 0 t~2;", "+2 0 t~2;")
	wantScript(t, "2 0 t~2;", "", "-2;")
	wantScript(t, "2 0 t~2;4 2 b;", "2 4 b;4 0 t~4;", "=4 0 t~4;=2 4 b;")
	wantScript(t, "2 0 a;4 0 b;", "2 0 b;4 0 t~4;", "=4 0 t~4;=2 0 b;")
	wantScript(t, "2 0 a;4 2 t~4;", "2 0 b;4 0 a;", "=2 0 b;=4 0 a;")
	wantScript(t, "2 0 t~2;4 2 t~4;", "2 4 t~2;4 0 t;", "=4 0 t;=2 4 t~2;")
	wantScript(t, "2 0 t;4 0 a;", "2 0 a;4 0 t;", "=2 0 t~2;=4 0 t;=2 0 a;", "=4 0 t~4;=2 0 a;=4 0 t;")
	// 2 waits, and stands at its park already: another is to be parked.
	if n := wantPlan(t, "2 0 t~2;4 2 a;6 0 b;", "2 4 c;4 0 b;6 2 a;"); n != 1 {
		t.Errorf("P6: %d parks", n)
	}
}

// forms: every tree of these nodes whose names are among some, and a name of their own.
func forms(ids []int, names ...string) []string {
	texts := []string{""}
	for _, id := range ids {
		var longer []string
		for _, s := range texts {
			longer = append(longer, s)
			for parent := 0; parent <= 4; parent += 2 {
				for _, name := range names {
					name = strings.ReplaceAll(name, "~", "~"+strconv.Itoa(id))
					longer = append(longer, fmt.Sprintf("%s%d %d %s;", s, id, parent, name))
				}
			}
		}
		texts = longer
	}
	return slices.DeleteFunc(texts, func(s string) bool {
		_, e, _ := modelCheck(s)
		return e != api.OK
	})
}

// Every pair of small trees.
func TestP6All(t *testing.T) {
	parks := 0
	for _, list := range [][]string{forms([]int{2, 3, 4}, "a", "b"), forms([]int{2, 4}, "a", "b", "t~"), forms([]int{2, 4, 6}, "a", "t~")} {
		for _, from := range list {
			for _, to := range list {
				parks += wantPlan(t, from, to)
			}
		}
	}
	if parks < 100 {
		t.Errorf("only %d parks were seen", parks)
	}
}

// drawn: a tree of these nodes, given a place in this order.
func drawn(r *rand.Rand, ids []int, names int) string {
	tree := map[int]place{}
	folders := []int{0}
	for _, id := range ids {
		p := place{folders[r.Intn(len(folders))], string(rune('a' + r.Intn(names)))}
		if r.Intn(10) == 0 {
			p = place{0, "t~" + strconv.Itoa(id)}
		}
		if modelStep(tree, '+', id, p) != api.OK {
			p.name += "~" + strconv.Itoa(id)
			modelStep(tree, '+', id, p)
		}
		if id%2 == 0 {
			folders = append(folders, id)
		}
	}
	return modelText(tree)
}

// shuffled: some of the numbers from 1 to most, in any order.
func shuffled(r *rand.Rand, most int, least int) []int {
	ids := r.Perm(most)
	for i := range ids {
		ids[i]++
	}
	return ids[:least+r.Intn(most-least+1)]
}

// edited: a tree that some steps made of another.
func edited(r *rand.Rand, text string, times int) string {
	tree, _, _ := modelCheck(text)
	for i := 0; i < times; i++ {
		id, p, _ := modelNode(someNode(r, 1+r.Intn(9), 9))
		modelStep(tree, "+=-"[r.Intn(3)], id, p)
	}
	return modelText(tree)
}

func TestP6Drawn(t *testing.T) {
	r := rand.New(rand.NewSource(6))
	parks, plain := 0, 0
	for i := 0; i < 6000; i++ {
		a, b := drawn(r, shuffled(r, 10, 2), 3), drawn(r, shuffled(r, 10, 2), 3)
		for _, n := range []int{wantPlan(t, a, b), wantPlan(t, a, edited(r, a, 12)), wantPlan(t, realTree(r), realTree(r))} {
			parks += n
			if n == 0 {
				plain++
			}
		}
	}
	if parks < 1000 || plain < 1000 {
		t.Errorf("%d parks were seen, and %d scripts without", parks, plain)
	}
}

func TestP6Great(t *testing.T) {
	r := rand.New(rand.NewSource(66))
	for i := 0; i < 60; i++ {
		a, b := drawn(r, shuffled(r, api.MaxId, 90), 1+r.Intn(26)), drawn(r, shuffled(r, api.MaxId, 90), 1+r.Intn(26))
		wantPlan(t, a, b)
		wantPlan(t, a, "")
		wantPlan(t, "", b)
	}
	wantPlan(t, chain(0), longest())
	wantPlan(t, longest(), chain(0))
}

// The folders of a way up, in the other order and with each other's names.
func TestP6TurnedChain(t *testing.T) {
	down, up := "", ""
	for id := 2; id < api.MaxId; id += 2 {
		down += fmt.Sprintf("%d %d x%d;", id, id-2, id)
		up += fmt.Sprintf("%d %d x%d;", id, (id+2)%100, 100-id)
	}
	wantPlan(t, down, up)
	wantPlan(t, up, down)
	wantPlan(t, strings.ReplaceAll(down, "x", "t~"), up) // the first stands at its park
}

// Where no step home waits for itself there is no park; the least change that closes a circle mostly makes one.
func TestP7NoCircle(t *testing.T) {
	for _, c := range []struct {
		from, to      string
		circle, parks bool
	}{
		{"3 0 a;5 0 b;7 0 c;", "3 0 b;5 0 c;7 0 d;", false, false}, // a row of names
		{"3 0 a;5 0 b;7 0 c;", "3 0 b;5 0 c;7 0 a;", true, true},
		{"3 0 a;5 0 b;7 0 c;", "3 0 b;5 0 c;9 0 a;", false, false}, // 7 is deleted
		{"2 0 a;4 2 b;6 4 c;", "2 4 a;4 6 b;6 0 c;", false, false}, // a way up, turned round
		{"2 0 a;4 2 a;6 4 a;", "2 4 a;4 6 a;6 0 a;", true, true},
		{"2 0 a;3 2 a;5 2 b;", "3 0 b;5 0 c;", false, false}, // a folder's place
		{"2 0 a;3 2 a;5 2 b;", "3 0 a;5 0 c;", true, true},
		{"2 0 a;4 2 a;", "4 6 a;6 0 b;", false, false}, // below a new folder
		{"2 0 a;4 2 a;", "4 6 a;6 0 a;", true, true},
		{"2 0 a;3 2 b;4 0 c;", "2 0 c;3 4 a;4 0 d;", false, false}, // below a folder that moves
		{"2 0 a;3 2 b;4 0 c;", "3 4 a;4 0 a;", true, false},        // 3 need not wait for 4
	} {
		from, _, _ := modelCheck(c.from)
		to, _, _ := modelCheck(c.to)
		if isTangled(from, to) != c.circle {
			t.Errorf("P7: from %q to %q: a circle: %v", c.from, c.to, !c.circle)
		}
		if n := wantPlan(t, c.from, c.to); (n > 0) != c.parks {
			t.Errorf("P7: from %q to %q: %d parks", c.from, c.to, n)
		}
	}
}
