package logs

import (
	"strings"
	"testing"
	"unsafe"

	"graft/api"
	"graft/trees"
)

func read(t *testing.T, text string) []Op {
	t.Helper()
	list, formed := Read(text)
	if !formed {
		t.Fatalf("no ops: %q", text)
	}
	return list
}

func TestReadAndText(t *testing.T) {
	list := read(t, "9999 9 99 98 abcdefgh~99;1 2 3 100 -;")
	if len(list) != 2 || list[0] != (Op{9999, 9, trees.Node{Id: 99, Parent: 98, Name: "abcdefgh~99"}}) || list[1] != (Op{1, 2, trees.Node{Id: 3, Parent: api.Trash, Name: "-"}}) {
		t.Errorf("got %v", list)
	}
	if list[0].Text() != "9999 9 99 98 abcdefgh~99;" || list[1].Text() != "1 2 3 100 -;" {
		t.Errorf("got %q, %q", list[0].Text(), list[1].Text())
	}
	for _, text := range []string{"x", "1 1 2 0 a;1 1 2 0 a", "1 1 2 0 a;;", "1 1 2 1 a;1 1 2 0 a;"} {
		if list, formed := Read(text); formed || list != nil {
			t.Errorf("Read(%q) = %v, %v", text, list, formed)
		}
	}
}

func TestIsAhead(t *testing.T) {
	order := read(t, "1 1 2 0 a;1 9 2 0 a;2 1 2 0 a;9 9 2 0 a;10 1 2 0 a;9999 9 2 0 a;")
	for i := range order {
		for k := range order {
			if order[i].isAhead(order[k]) != (i < k) {
				t.Errorf("is %q ahead of %q? %v", order[i].Text(), order[k].Text(), i >= k)
			}
		}
	}
}

func TestJoinRefused(t *testing.T) {
	var l Log
	list := read(t, strings.Repeat("2 1 2 0 a;", 200)+"1 9 4 2 b;")
	if n, e := l.Join(list); n != 2 || e != api.OK {
		t.Errorf("got %d, %d", n, e)
	}
	const want = "1 9 4 2 b;2 1 2 0 a;"
	var many []Op
	for count := 3; count <= api.MaxLog+1; count++ {
		many = append(many, Op{count, 1, trees.Node{Id: 6, Parent: 0, Name: "c"}})
	}
	if n, e := l.Join(many); n != 0 || e != api.ErrFull || l.Text() != want {
		t.Errorf("got %d, %d, %.60q", n, e, l.Text())
	}
	if n, e := l.Join(many[1:]); n != api.MaxLog-2 || e != api.OK {
		t.Errorf("got %d, %d", n, e)
	}
}

// wantCopies wants no name of the log to be a part of the text: it would keep all of it.
func wantCopies(t *testing.T, l *Log, text string) {
	t.Helper()
	start := uintptr(unsafe.Pointer(unsafe.StringData(text)))
	for _, op := range l.ops {
		at := uintptr(unsafe.Pointer(unsafe.StringData(op.Node.Name)))
		if at >= start && at < start+uintptr(len(text)) {
			t.Errorf("the name of %q is a part of the text", op.Text())
		}
	}
}

func TestNamesAreCopies(t *testing.T) {
	var l Log
	text := "1 1 2 0 abcdefgh;2 1 3 100 -;"
	l.Join(read(t, text))
	wantCopies(t, &l, text)
	text = "2 0 abcdefgh~2;4 2 abcdefgh;"
	l.Reach(goal(t, text), 1)
	wantCopies(t, &l, text)
}

func goal(t *testing.T, text string) trees.Tree {
	t.Helper()
	tree, e, _ := trees.Read(text)
	if e != api.OK {
		t.Fatalf("no tree: %q", text)
	}
	return tree
}

func TestReach(t *testing.T) {
	var l Log
	l.Join(read(t, "1 9 2 0 a;1 8 4 0 a;7 9 5 4 b;"))
	made, e := l.Reach(goal(t, "2 0 b;4 0 a~4;"), 3)
	if got := Text(made); got != "8 3 4 0 a~4;9 3 2 0 b;10 3 5 100 -;" || e != api.OK {
		t.Errorf("got %q, %d", got, e)
	}
	const want = "1 8 4 0 a;1 9 2 0 a;7 9 5 4 b;8 3 4 0 a~4;9 3 2 0 b;10 3 5 100 -;"
	if l.Text() != want {
		t.Errorf("the log is %q", l.Text())
	}
	made, e = l.Reach(goal(t, "2 0 c;5 2 b;"), 3)
	if made != nil || e != api.ErrUsed || l.Text() != want {
		t.Errorf("got %v, %d, %q", made, e, l.Text())
	}
}

// What is done to the ops that Reach answered does not go back to the log.
func TestReachedOpsAreOwn(t *testing.T) {
	var l Log
	made, _ := l.Reach(goal(t, "2 0 a;3 2 b;"), 1)
	made[0].Node.Name = "x"
	if l.Text() != "1 1 2 0 a;2 1 3 2 b;" {
		t.Errorf("the log is %q", l.Text())
	}
}

// The view is made from the log each time, and nothing that is done to it goes back.
func TestViewIsItsOwn(t *testing.T) {
	var l Log
	l.Join(read(t, "1 1 2 0 a;2 1 4 0 a;3 1 5 6 a;"))
	view := l.View()
	view.Delete(2)
	view.Move(trees.Node{Id: 4, Parent: 0, Name: "b"})
	view = l.View()
	if view.Text() != "2 0 a;4 0 a~4;" || l.Text() != "1 1 2 0 a;2 1 4 0 a;3 1 5 6 a;" {
		t.Errorf("got %q, %q", view.Text(), l.Text())
	}
}
