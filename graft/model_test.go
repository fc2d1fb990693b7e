package graft_test

import (
	"fmt"
	"math/rand"
	"regexp"
	"sort"
	"strconv"
	"strings"
	"testing"

	"graft/api"
	"graft/graft"
)

// The model: the document's words on Check and Apply once more, by other means, to compare random texts with.

type place struct {
	parent int
	name   string
}

var (
	nodeForm   = regexp.MustCompile(`^([1-9][0-9]?) (0|[1-9][0-9]?) ([a-z0-9.]{1,8}(?:~([1-9][0-9]?))?);$`)
	deleteForm = regexp.MustCompile(`^([1-9][0-9]?);$`)
)

func modelRecords(text string) []string {
	list := strings.SplitAfter(text, ";")
	if list[len(list)-1] == "" {
		list = list[:len(list)-1]
	}
	return list
}

func modelNode(record string) (int, place, bool) {
	m := nodeForm.FindStringSubmatch(record)
	if m == nil || (m[4] != "" && m[4] != m[1]) {
		return 0, place{}, false
	}
	id, _ := strconv.Atoi(m[1])
	parent, _ := strconv.Atoi(m[2])
	return id, place{parent, m[3]}, true
}

func modelFolder(tree map[int]place, id int) bool {
	_, here := tree[id]
	return id == 0 || here && id%2 == 0
}

// modelBelow tells whether id is goal or lies below it.
func modelBelow(tree map[int]place, id int, goal int) bool {
	for seen := map[int]bool{}; !seen[id]; id = tree[id].parent {
		if id == goal {
			return true
		}
		seen[id] = true
	}
	return false
}

func modelCheck(text string) (map[int]place, api.Errno, int) {
	if len(text) > 4000 {
		return nil, api.ErrLong, 0
	}
	tree := map[int]place{}
	var ids []int
	order := -1
	for i, record := range modelRecords(text) {
		id, p, formed := modelNode(record)
		if !formed {
			return nil, api.ErrForm, i
		}
		if order < 0 && i > 0 && id <= ids[i-1] {
			order = i
		}
		ids = append(ids, id)
		tree[id] = p
	}
	if order >= 0 {
		return nil, api.ErrOrder, order
	}
	for i, id := range ids {
		if !modelFolder(tree, tree[id].parent) {
			return nil, api.ErrParent, i
		}
	}
	for i, id := range ids {
		if !modelBelow(tree, id, 0) {
			return nil, api.ErrLoop, i
		}
	}
	had := map[place]bool{}
	for i, id := range ids {
		if had[tree[id]] {
			return nil, api.ErrTwice, i
		}
		had[tree[id]] = true
	}
	return tree, api.OK, 0
}

func modelStep(tree map[int]place, kind byte, id int, to place) api.Errno {
	_, here := tree[id]
	kids, taken := false, false
	for other, p := range tree {
		kids = kids || p.parent == id
		taken = taken || other != id && p == to
	}
	switch {
	case kind == '+' && here:
		return api.ErrHere
	case kind != '+' && !here:
		return api.ErrMissing
	case kind == '-' && kids:
		return api.ErrKids
	case kind == '-':
		delete(tree, id)
		return api.OK
	case !modelFolder(tree, to.parent):
		return api.ErrParent
	case kind == '=' && modelBelow(tree, to.parent, id):
		return api.ErrLoop
	case taken:
		return api.ErrTwice
	}
	tree[id] = to
	return api.OK
}

func modelStepForm(record string) (byte, int, place, bool) {
	kind := record[0]
	if kind == '+' || kind == '=' {
		id, p, formed := modelNode(record[1:])
		return kind, id, p, formed
	}
	if kind == '-' {
		m := deleteForm.FindStringSubmatch(record[1:])
		if m != nil {
			id, _ := strconv.Atoi(m[1])
			return kind, id, place{}, true
		}
	}
	return 0, 0, place{}, false
}

func modelText(tree map[int]place) string {
	var ids []int
	for id := range tree {
		ids = append(ids, id)
	}
	sort.Ints(ids)
	s := ""
	for _, id := range ids {
		s += fmt.Sprintf("%d %d %s;", id, tree[id].parent, tree[id].name)
	}
	return s
}

func modelApply(text string, script string) (string, int, api.Errno) {
	if len(text) > 4000 || len(script) > 4000 {
		return "", 0, api.ErrLong
	}
	tree, e, at := modelCheck(text)
	if e != api.OK {
		return "", at, e
	}
	for i, record := range modelRecords(script) {
		if _, _, _, formed := modelStepForm(record); !formed {
			return "", i, api.ErrStep
		}
	}
	for i, record := range modelRecords(script) {
		kind, id, to, _ := modelStepForm(record)
		if e := modelStep(tree, kind, id, to); e != api.OK {
			return "", i, e
		}
	}
	return modelText(tree), 0, api.OK
}

// someNode writes a record's parts: few nodes and names, so that they often meet.
func someNode(r *rand.Rand, id int, most int) string {
	name := string(rune('a' + r.Intn(3)))
	if r.Intn(8) == 0 {
		name += "~" + strconv.Itoa(id)
	}
	parent := 0
	if r.Intn(3) > 0 {
		parent = 2 * r.Intn(most/2+1)
	}
	if r.Intn(30) == 0 {
		parent = r.Intn(most + 1)
	}
	return fmt.Sprintf("%d %d %s;", id, parent, name)
}

// someTree writes records with rising IDs: often a tree.
func someTree(r *rand.Rand) string {
	most := 2 + r.Intn(8)
	s := ""
	for id := 1; id <= most; id++ {
		if r.Intn(3) > 0 {
			s += someNode(r, id, most)
		}
	}
	return s
}

// realTree gives a text that is a tree.
func realTree(r *rand.Rand) string {
	for {
		s := someTree(r)
		if _, e, _ := modelCheck(s); e == api.OK {
			return s
		}
	}
}

func someScript(r *rand.Rand) string {
	s := ""
	for i := r.Intn(8); i > 0; i-- {
		id := 1 + r.Intn(9)
		switch r.Intn(3) {
		case 0:
			s += "-" + strconv.Itoa(id) + ";"
		case 1:
			s += "+" + someNode(r, id, 9)
		default:
			s += "=" + someNode(r, id, 9)
		}
	}
	return s
}

// damaged changes a byte, takes one out or puts one in.
func damaged(r *rand.Rand, s string) string {
	const bytes = "0123456789 ;~+=-abcA.\x00\xff"
	c := string(bytes[r.Intn(len(bytes))])
	at := r.Intn(len(s) + 1)
	switch {
	case at == len(s) || r.Intn(3) == 0:
		return s[:at] + c + s[at:]
	case r.Intn(2) == 0:
		return s[:at] + s[at+1:]
	}
	return s[:at] + c + s[at+1:]
}

func compareCheck(t *testing.T, tree string, seen *[16]int) {
	t.Helper()
	_, e, at := modelCheck(tree)
	seen[e]++
	wantCheck(t, tree, e, at)
}

func compareApply(t *testing.T, tree string, script string, seen *[16]int) {
	t.Helper()
	out, at, e := modelApply(tree, script)
	seen[e]++
	gotOut, gotAt, gotE := graft.Apply(tree, script)
	if gotOut != out || gotAt != at || gotE != e {
		t.Errorf("P4: Apply(%q, %q) = %q, %d, %d, want %q, %d, %d", tree, script, gotOut, gotAt, gotE, out, at, e)
	}
	if gotE == api.OK {
		wantCheck(t, gotOut, api.OK, 0)
	}
}

func wantSeen(t *testing.T, seen [16]int, list ...api.Errno) {
	t.Helper()
	for _, e := range list {
		if seen[e] < 50 {
			t.Errorf("the random texts gave the answer %d only %d times", e, seen[e])
		}
	}
}

func TestP3Model(t *testing.T) {
	r := rand.New(rand.NewSource(3))
	var seen [16]int
	for i := 0; i < 30000; i++ {
		tree := someTree(r)
		compareCheck(t, tree, &seen)
		compareCheck(t, damaged(r, tree), &seen)
		compareCheck(t, damaged(r, realTree(r)), &seen)
	}
	wantSeen(t, seen, api.OK, api.ErrForm, api.ErrOrder, api.ErrParent, api.ErrLoop, api.ErrTwice)
}

func TestP4Model(t *testing.T) {
	r := rand.New(rand.NewSource(4))
	var seen [16]int
	for i := 0; i < 30000; i++ {
		script := someScript(r)
		compareApply(t, realTree(r), script, &seen)
		compareApply(t, realTree(r), damaged(r, script), &seen)
		compareApply(t, someTree(r), script, &seen)
	}
	wantSeen(t, seen, api.OK, api.ErrParent, api.ErrLoop, api.ErrTwice, api.ErrStep, api.ErrHere, api.ErrMissing, api.ErrKids)
}
