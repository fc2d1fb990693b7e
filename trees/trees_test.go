package trees

import (
	"testing"

	"graft/api"
)

func TestIsName(t *testing.T) {
	for _, name := range []string{"a", "z", "0", "9", ".", "..", "a.txt", "abcdefgh", "a~7", "abcdefgh~7", "7~7"} {
		if !IsName(name, 7) {
			t.Errorf("%q is no name of node 7", name)
		}
	}
	for _, name := range []string{"", "~7", "~", "a~", "a~2", "a~07", "a~77", "a~7~7", "a~7b", "a~7 ", "abcdefghi", "abcdefghi~7", "A", "a b", "a-b", "a/b", "`", "{", "/", ":", "a\x00", "\u00e9"} {
		if IsName(name, 7) {
			t.Errorf("%q is a name of node 7", name)
		}
	}
	if !IsName("a~12", 12) || IsName("a~1", 12) || IsName("a~2", 12) {
		t.Errorf("names of node 12")
	}
}

func TestReadNode(t *testing.T) {
	if n, formed := ReadNode("99 98 a~99"); !formed || n != (Node{Id: 99, Parent: 98, Name: "a~99"}) {
		t.Errorf("got %v, %v", n, formed)
	}
	for _, body := range []string{"", " ", "2", "2 0", "2 0 ", "2 0 a ", " 2 0 a", "2 0 a b", "0 0 a", "100 0 a", "2 100 a", "2 -1 a", "2 0 a;"} {
		if n, formed := ReadNode(body); formed || n != (Node{}) {
			t.Errorf("ReadNode(%q) = %v, %v", body, n, formed)
		}
	}
}

func TestFailedChangeLeavesTree(t *testing.T) {
	const text = "2 0 a;3 2 b;4 2 c;5 0 d;"
	tree, e, _ := Read(text)
	if e != api.OK || tree.Text() != text {
		t.Fatalf("Read(%q) = %d, %q", text, e, tree.Text())
	}
	for _, c := range []struct {
		got, want api.Errno
	}{
		{tree.Create(Node{2, 0, "x"}), api.ErrHere},
		{tree.Create(Node{6, 5, "x"}), api.ErrParent},
		{tree.Create(Node{6, 0, "a"}), api.ErrTwice},
		{tree.Move(Node{6, 0, "x"}), api.ErrMissing},
		{tree.Move(Node{2, 8, "x"}), api.ErrParent},
		{tree.Move(Node{2, 4, "x"}), api.ErrLoop},
		{tree.Move(Node{3, 2, "c"}), api.ErrTwice},
		{tree.Delete(6), api.ErrMissing},
		{tree.Delete(2), api.ErrKids},
	} {
		if c.got != c.want {
			t.Errorf("got %d, want %d", c.got, c.want)
		}
	}
	if got := tree.Text(); got != text {
		t.Errorf("the tree is %q, was %q", got, text)
	}
}

func TestNumbersOfNoNode(t *testing.T) {
	var tree Tree
	for _, id := range []int{-1 << 63, -1, 0, 100, 1<<63 - 1} {
		if tree.Has(id) || tree.Delete(id) != api.ErrMissing || tree.Move(Node{id, 0, "a"}) != api.ErrMissing {
			t.Errorf("an empty tree has the node %d", id)
		}
		tree.Create(Node{id, 0, "a"})
		tree.Put(Node{id, 0, "a"})
		if tree.Text() != "" {
			t.Errorf("the tree took the node %d", id)
		}
	}
}

func TestPutAsksNothing(t *testing.T) {
	var tree Tree
	for _, n := range []Node{{3, 6, "a"}, {5, 6, "a"}, {7, api.Trash, "-"}, {2, 4, "b"}, {4, 0, "c"}, {4, 0, "d"}} {
		tree.Put(n)
	}
	if got := tree.Text(); got != "2 4 b;3 6 a;4 0 d;5 6 a;7 100 -;" {
		t.Errorf("got %q", got)
	}
	if tree.At(6, "a") != 3 {
		t.Errorf("of two nodes at a place, the first is not %d", tree.At(6, "a"))
	}
	for id, want := range []bool{true, false, true, false, true, false, false, false} {
		if tree.Meets(id, api.Root) != want {
			t.Errorf("does %d come to Root? %v", id, !want)
		}
	}
}

func TestGetAndKid(t *testing.T) {
	tree, _, _ := Read("2 0 a;3 4 b;4 2 c;5 4 d;")
	if tree.Get(4) != (Node{4, 2, "c"}) || tree.Get(6) != (Node{}) || tree.Get(0) != (Node{}) || tree.Get(-1) != (Node{}) || tree.Get(100) != (Node{}) {
		t.Errorf("the nodes are not those of the text")
	}
	if tree.Kid(0) != 2 || tree.Kid(2) != 4 || tree.Kid(4) != 3 || tree.Kid(3) != api.Root || tree.Kid(6) != api.Root {
		t.Errorf("the kids are not those of the text")
	}
}
