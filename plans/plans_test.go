package plans

import (
	"fmt"
	"testing"

	"graft/api"
	"graft/steps"
	"graft/trees"
)

// compile answers the script from one text to another, and how many of its steps are parks.
func compile(t *testing.T, from string, to string) (string, int) {
	t.Helper()
	start, e, at := trees.Read(from)
	goal, e2, at2 := trees.Read(to)
	if e != api.OK || e2 != api.OK {
		t.Fatalf("no tree: %q %d %d, %q %d %d", from, e, at, to, e2, at2)
	}
	list := Make(start, goal)
	parks := 0
	for _, s := range list {
		if s.Node != goal.Get(s.Node.Id) && s.Kind != steps.Delete {
			parks++
		}
	}
	e, at = steps.DoAll(list, &start)
	if e != api.OK || start.Text() != to {
		t.Fatalf("from %q to %q: step %d: %d, and %q", from, to, at, e, start.Text())
	}
	return steps.Text(list), parks
}

func wantParks(t *testing.T, from string, to string, want int) {
	t.Helper()
	script, parks := compile(t, from, to)
	if parks != want {
		t.Errorf("from %q to %q: %d parks, want %d: %q", from, to, parks, want, script)
	}
}

// waitingRow: each of the files from 7 to 89 wants the place of the one ahead, and 7 that of the folder a; a waits for b, which lies below it; b and c want each other's place.
func waitingRow(a int, b int, c int) (string, string) {
	from := fmt.Sprintf("%d 0 n5;%d %d p;%d 0 q;", a, b, a, c)
	to := fmt.Sprintf("%d %d x;%d 0 q;%d %d p;", a, b, b, c, a)
	row, rowTo := "", ""
	for id := 7; id < 90; id += 2 {
		row += fmt.Sprintf("%d 0 n%d;", id, id)
		rowTo += fmt.Sprintf("%d 0 n%d;", id, id-2)
	}
	if a > 7 {
		return row + from, rowTo + to
	}
	return from + row, to + rowTo
}

// Nodes that wait for a circle without being in it are not parked, whether their IDs are lower or higher.
func TestRowBehindCircle(t *testing.T) {
	from, to := waitingRow(2, 4, 6)
	wantParks(t, from, to, 1)
	from, to = waitingRow(90, 92, 94)
	wantParks(t, from, to, 1)
}

func TestCircles(t *testing.T) {
	wantParks(t, "1 0 a;2 0 b;", "1 0 b;2 0 a;", 1)
	wantParks(t, "1 0 a;2 0 b;3 0 c;", "1 0 b;2 0 c;3 0 a;", 1)
	wantParks(t, "1 0 a;2 0 b;3 0 c;4 0 d;", "1 0 b;2 0 a;3 0 d;4 0 c;", 2)
	wantParks(t, "2 0 a;3 2 a;", "3 0 a;", 1)
	wantParks(t, "2 0 a;4 2 a;6 4 a;7 6 a;", "7 0 a;", 1) // deletions in a row wait for one move
	wantParks(t, "7 0 a;", "2 0 a;4 2 a;6 4 a;7 6 a;", 1) // a move waits for creations in a row
	wantParks(t, "2 0 a;4 2 b;", "2 4 b;4 0 a;", 1)
}
