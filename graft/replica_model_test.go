package graft_test

import (
	"fmt"
	"math/rand"
	"regexp"
	"sort"
	"strconv"
	"strings"
	"testing"

	"graft/api"
	"graft/graft"
)

// The model of a replica: the document's words on logs and views once more, by other means.

type stamp struct {
	count, site int
}

type modelOp struct {
	id int
	to place
}

var opForm = regexp.MustCompile(`^([1-9][0-9]{0,3}) ([1-9]) ([1-9][0-9]?) (0|[1-9]?[02468]|100) (-|[a-z0-9.]{1,8}(?:~([1-9][0-9]?))?);$`)

func modelReadOp(record string) (stamp, modelOp, bool) {
	m := opForm.FindStringSubmatch(record)
	if m == nil || (m[6] != "" && m[6] != m[3]) || (m[4] == "100") != (m[5] == "-") {
		return stamp{}, modelOp{}, false
	}
	var n [5]int
	for i := 1; i <= 4; i++ {
		n[i], _ = strconv.Atoi(m[i])
	}
	return stamp{n[1], n[2]}, modelOp{n[3], place{n[4], m[5]}}, true
}

func modelDeliver(log map[stamp]modelOp, ops string) (int, api.Errno) {
	if len(ops) > 4000 {
		return 0, api.ErrLong
	}
	fresh := map[stamp]modelOp{}
	for _, record := range modelRecords(ops) {
		s, op, formed := modelReadOp(record)
		if !formed {
			return 0, api.ErrOp
		}
		_, known := log[s]
		_, ahead := fresh[s]
		if !known && !ahead {
			fresh[s] = op
		}
	}
	if len(log)+len(fresh) > 150 {
		return 0, api.ErrFull
	}
	for s, op := range fresh {
		log[s] = op
	}
	return len(fresh), api.OK
}

func modelStamps(log map[stamp]modelOp) []stamp {
	var list []stamp
	for s := range log {
		list = append(list, s)
	}
	sort.Slice(list, func(i, j int) bool { return 10*list[i].count+list[i].site < 10*list[j].count+list[j].site })
	return list
}

func modelLog(log map[stamp]modelOp) string {
	text := ""
	for _, s := range modelStamps(log) {
		op := log[s]
		text += fmt.Sprintf("%d %d %d %d %s;", s.count, s.site, op.id, op.to.parent, op.to.name)
	}
	return text
}

func modelPlaces(log map[stamp]modelOp) map[int]place {
	places := map[int]place{}
	for _, s := range modelStamps(log) {
		op := log[s]
		up, has := op.to.parent, true
		for has && up != op.id {
			var p place
			p, has = places[up]
			up = p.parent
		}
		if !has {
			places[op.id] = op.to
		}
	}
	return places
}

// modelView goes down from Root, and lets each folder name its nodes in rising order of IDs.
func modelView(log map[stamp]modelOp) string {
	places := modelPlaces(log)
	view := map[int]place{}
	folders := []int{0}
	for len(folders) > 0 {
		folder := folders[0]
		folders = folders[1:]
		had := map[string]bool{}
		for id := 1; id <= 99; id++ {
			p, has := places[id]
			if !has || p.parent != folder {
				continue
			}
			shown := p.name
			if had[p.name] {
				shown += "~" + strconv.Itoa(id)
			}
			had[p.name] = true
			view[id] = place{folder, shown}
			folders = append(folders, id)
		}
	}
	return modelText(view)
}

// someOp writes an op: few nodes and names, so that they often meet.
func someOp(r *rand.Rand, counts int, ids int) string {
	head := fmt.Sprintf("%d %d", 1+r.Intn(counts), 1+r.Intn(9))
	id := 1 + r.Intn(ids)
	if r.Intn(8) == 0 {
		return fmt.Sprintf("%s %d 100 -;", head, id)
	}
	parent := 0
	if r.Intn(4) > 0 {
		parent = 2 * r.Intn(ids/2+1)
	}
	name := string(rune('a' + r.Intn(3)))
	if r.Intn(8) == 0 {
		name += "~" + strconv.Itoa(id)
	}
	return fmt.Sprintf("%s %d %d %s;", head, id, parent, name)
}

func someOps(r *rand.Rand, most int, counts int, ids int) string {
	s := ""
	for i := r.Intn(most + 1); i > 0; i-- {
		s += someOp(r, counts, ids)
	}
	return s
}

// compareReplica hands the same texts to a replica and to the model.
func compareReplica(t *testing.T, site int, texts []string, seen *[16]int) {
	t.Helper()
	p := newPair(t, site)
	for _, ops := range texts {
		p.deliver(t, ops, seen)
	}
}

func TestP9Model(t *testing.T) {
	r := rand.New(rand.NewSource(9))
	var seen [16]int
	for i := 0; i < 1500; i++ {
		var texts []string
		counts, ids := 1+r.Intn(12), 2+r.Intn(8)
		for k := 1 + r.Intn(8); k > 0; k-- {
			ops := someOps(r, 12, counts, ids)
			texts = append(texts, ops, damaged(r, ops))
		}
		compareReplica(t, 1+i%9, texts, &seen)
	}
	wantSeen(t, seen, api.OK, api.ErrOp)
}

// Logs up to their bound, with nodes of all numbers.
func TestP9ModelFull(t *testing.T) {
	r := rand.New(rand.NewSource(10))
	var seen [16]int
	for i := 0; i < 60; i++ {
		var texts []string
		for k := 0; k < 14; k++ {
			texts = append(texts, someOps(r, 40, 60, 99))
		}
		texts = append(texts, someOps(r, 3, 9999, 9), someOps(r, 400, 9999, 99)+strings.Repeat(" ", 200))
		compareReplica(t, 1+i%9, texts, &seen)
	}
	wantSeen(t, seen, api.OK, api.ErrFull)
}

// handed delivers texts to a fresh replica in the order that is told.
func handed(t *testing.T, site int, texts []string, order []int) *graft.Replica {
	t.Helper()
	x := newReplica(t, site)
	for _, i := range order {
		if _, e := x.Deliver(texts[i]); e != api.OK {
			t.Fatalf("P9: Deliver(%q): %d", texts[i], e)
		}
	}
	return x
}

// The ops of one log, cut into texts anyhow, in any order and more than once, give one log and one view.
func TestP10AnyOrder(t *testing.T) {
	r := rand.New(rand.NewSource(11))
	for i := 0; i < 400; i++ {
		log := map[stamp]modelOp{}
		modelDeliver(log, someOps(r, 30, 20, 2+r.Intn(8)))
		want, view := modelLog(log), modelView(log)
		list := modelRecords(want)
		for again := 0; again < 5; again++ {
			order := r.Perm(len(list))
			for k := range list {
				if r.Intn(4) == 0 {
					order = append(order, k)
				}
			}
			wantShown(t, handed(t, 1+r.Intn(9), list, order), want, view)
		}
	}
}

// All orders of a log in which every op bears on the others.
func TestP10AllOrders(t *testing.T) {
	const log = "1 1 2 4 a;1 2 4 0 a;2 1 6 0 a;2 2 4 2 b;3 1 4 100 -;3 2 4 6 a;"
	list := modelRecords(log)
	orders := [][]int{{}}
	for i := range list {
		var longer [][]int
		for _, o := range orders {
			for at := 0; at <= len(o); at++ {
				next := append([]int{}, o[:at]...)
				next = append(next, i)
				longer = append(longer, append(next, o[at:]...))
			}
		}
		orders = longer
	}
	if len(orders) != 720 {
		t.Fatalf("%d orders", len(orders))
	}
	for _, o := range orders {
		wantShown(t, handed(t, 7, list, o), log, "2 4 a;4 6 a;6 0 a;")
	}
}

// call: a text that a replica is handed.
type call struct {
	ingest bool
	text   string
}

// answerTo makes a call, and answers its first result as a text.
func answerTo(x *graft.Replica, c call) (string, api.Errno) {
	if c.ingest {
		return x.Ingest(c.text)
	}
	n, e := x.Deliver(c.text)
	return strconv.Itoa(n), e
}

func someCall(r *rand.Rand, view string) call {
	if r.Intn(2) == 0 {
		return call{true, someEdit(r, view)}
	}
	ops := someOps(r, 4, 20, 9)
	if r.Intn(3) == 0 {
		ops = damaged(r, ops)
	}
	return call{false, ops}
}

// Replicas side by side, refusals among the calls, and questions asked more often than needed: none of it changes an answer.
func TestP2Replicas(t *testing.T) {
	r := rand.New(rand.NewSource(12))
	for i := 0; i < 150; i++ {
		var side [9]*graft.Replica
		var sites [9]int
		var calls [9][]call
		var answers [9][]string
		for k := range side {
			sites[k] = 1 + r.Intn(9)
			side[k] = newReplica(t, sites[k])
		}
		for step := 0; step < 60; step++ {
			k := r.Intn(len(side))
			c := someCall(r, side[k].Export())
			if answer, e := answerTo(side[k], c); e == api.OK {
				calls[k] = append(calls[k], c)
				answers[k] = append(answers[k], answer)
			}
			other := side[r.Intn(len(side))]
			log, view := other.Log(), other.Export()
			if other.Log() != log || other.Export() != view {
				t.Fatalf("P2: first %q, %q, then %q, %q", log, view, other.Log(), other.Export())
			}
		}
		for k := range side {
			alone := newReplica(t, sites[k])
			for at, c := range calls[k] {
				if answer, e := answerTo(alone, c); answer != answers[k][at] || e != api.OK {
					t.Fatalf("P2: %v first gave %q, then %q, %d", c, answers[k][at], answer, e)
				}
			}
			wantShown(t, side[k], alone.Log(), alone.Export())
		}
	}
}
