package steps

import (
	"slices"
	"testing"

	"graft/api"
	"graft/trees"
)

func TestRead(t *testing.T) {
	create := Step{Create, trees.Node{Id: 3, Parent: 2, Name: "x~3"}}
	move := Step{Move, trees.Node{Id: 3, Parent: 0, Name: "y"}}
	remove := Step{Delete, trees.Node{Id: 2}}
	for _, c := range []struct {
		script string
		want   []Step
		formed bool
	}{
		{"", nil, true},
		{"+3 2 x~3;=3 0 y;-2;", []Step{create, move, remove}, true},
		{"+3 2 x~3;=3 0 y;-2", []Step{create, move}, false},
		{"+3 2 x~3;;-2;", []Step{create}, false},
		{"x", nil, false},
	} {
		if got, formed := Read(c.script); !slices.Equal(got, c.want) || formed != c.formed {
			t.Errorf("Read(%q) = %v, %v, want %v, %v", c.script, got, formed, c.want, c.formed)
		}
	}
}

func TestDoOfNoStep(t *testing.T) {
	var tree trees.Tree
	s := Step{'x', trees.Node{Id: 2, Parent: 0, Name: "a"}}
	if e := s.Do(&tree); e != api.ErrStep || tree.Text() != "" {
		t.Errorf("got %d and %q", e, tree.Text())
	}
}

func TestText(t *testing.T) {
	const script = "+3 2 x~3;=3 0 y;-2;"
	list, _ := Read(script)
	if got := Text(list); got != script {
		t.Errorf("got %q", got)
	}
	if Text(nil) != "" || (Step{Kind: 'x'}).Text() != "" {
		t.Errorf("no steps have a text")
	}
}
