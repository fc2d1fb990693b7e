// Package steps reads and writes scripts, and does their steps in a tree.
package steps

import (
	"strconv"

	"graft/api"
	"graft/records"
	"graft/trees"
)

// The kinds of steps, by the byte that a step begins with.
const (
	Create = '+'
	Move   = '='
	Delete = '-'
)

// Step is a step of a script. Of a deletion Node has the ID alone.
type Step struct {
	Kind byte
	Node trees.Node
}

// Read reads the steps of a script up to the first record that is none. It answers false if there is one: its number is then how many steps were read.
func Read(script string) ([]Step, bool) {
	var list []Step
	for _, record := range records.Cut(script) {
		s, formed := readStep(record)
		if !formed {
			return list, false
		}
		list = append(list, s)
	}
	return list, true
}

func readStep(record string) (Step, bool) {
	body, closed := records.Body(record)
	if !closed || body == "" {
		return Step{}, false
	}
	kind := body[0]
	switch kind {
	case Create, Move:
		n, formed := trees.ReadNode(body[1:])
		return Step{Kind: kind, Node: n}, formed
	case Delete:
		id, formed := records.Number(body[1:], 1, api.MaxId)
		return Step{Kind: kind, Node: trees.Node{Id: id}}, formed
	}
	return Step{}, false
}

// Text writes the step as a record.
func (s Step) Text() string {
	switch s.Kind {
	case Create:
		return "+" + s.Node.Text()
	case Move:
		return "=" + s.Node.Text()
	case Delete:
		return "-" + strconv.Itoa(s.Node.Id) + ";"
	}
	return ""
}

// Text writes steps as a script.
func Text(list []Step) string {
	script := ""
	for _, s := range list {
		script += s.Text()
	}
	return script
}

// Do does the step in a tree. A step that cannot be done leaves the tree as it was.
func (s Step) Do(t *trees.Tree) api.Errno {
	switch s.Kind {
	case Create:
		return t.Create(s.Node)
	case Move:
		return t.Move(s.Node)
	case Delete:
		return t.Delete(s.Node.Id)
	}
	return api.ErrStep
}

// DoAll does steps one behind the other. At the first that cannot be done it stops, and answers its error and number.
func DoAll(list []Step, t *trees.Tree) (api.Errno, int) {
	for i, s := range list {
		e := s.Do(t)
		if e != api.OK {
			return e, i
		}
	}
	return api.OK, 0
}
