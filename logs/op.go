// Package logs holds the ops of a replica: how they are read and written, and the tree that they show.
package logs

import (
	"strconv"

	"graft/api"
	"graft/records"
	"graft/trees"
)

// noName stands where an op that goes to Trash has its name.
const noName = "-"

// Op gives a node a place. Its count and site are its stamp.
type Op struct {
	Count int
	Site  int
	Node  trees.Node
}

// Read reads the ops of a text, and answers false if a record is none.
func Read(text string) ([]Op, bool) {
	var list []Op
	for _, record := range records.Cut(text) {
		op, formed := readOp(record)
		if !formed {
			return nil, false
		}
		list = append(list, op)
	}
	return list, true
}

func readOp(record string) (Op, bool) {
	body, closed := records.Body(record)
	parts := records.Parts(body)
	if !closed || len(parts) != 5 {
		return Op{}, false
	}
	count, countFits := records.Number(parts[0], 1, api.MaxCount)
	site, siteFits := records.Number(parts[1], 1, api.MaxSite)
	id, idFits := records.Number(parts[2], 1, api.MaxId)
	parent, parentFits := records.Number(parts[3], api.Root, api.Trash)
	if !countFits || !siteFits || !idFits || !parentFits {
		return Op{}, false
	}
	n := trees.Node{Id: id, Parent: parent, Name: parts[4]}
	return Op{Count: count, Site: site, Node: n}, isPlace(n)
}

// isPlace tells whether an op may give the node its place. Whether the parent is there does not matter: its own op may arrive later.
func isPlace(n trees.Node) bool {
	if n.Parent == api.Trash {
		return n.Name == noName
	}
	return trees.IsFolder(n.Parent) && trees.IsName(n.Name, n.Id)
}

// Text writes the op as a record.
func (op Op) Text() string {
	count := strconv.Itoa(op.Count)
	site := strconv.Itoa(op.Site)
	return count + " " + site + " " + op.Node.Text()
}

// Text writes ops as a text, in turn.
func Text(list []Op) string {
	text := ""
	for _, op := range list {
		text += op.Text()
	}
	return text
}

// isAhead tells whether the op comes ahead of another in the order of ops.
func (op Op) isAhead(other Op) bool {
	if op.Count != other.Count {
		return op.Count < other.Count
	}
	return op.Site < other.Site
}

// hasStamp tells whether one of the ops has the stamp of op.
func hasStamp(list []Op, op Op) bool {
	for _, other := range list {
		if other.Count == op.Count && other.Site == op.Site {
			return true
		}
	}
	return false
}
