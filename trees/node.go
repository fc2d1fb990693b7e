// Package trees holds folder trees: their nodes, how they are read and written, and the steps that change them.
package trees

import (
	"strconv"

	"graft/api"
	"graft/records"
)

// Node is a node's ID and its place.
type Node struct {
	Id     int
	Parent int
	Name   string
}

// ReadNode reads `ID PARENT NAME`, and answers false if the text has not this form.
func ReadNode(body string) (Node, bool) {
	parts := records.Parts(body)
	if len(parts) != 3 {
		return Node{}, false
	}
	id, idFits := records.Number(parts[0], 1, api.MaxId)
	parent, parentFits := records.Number(parts[1], api.Root, api.MaxId)
	if !idFits || !parentFits || !IsName(parts[2], id) {
		return Node{}, false
	}
	return Node{Id: id, Parent: parent, Name: parts[2]}, true
}

// Text writes the node as a record.
func (n Node) Text() string {
	id := strconv.Itoa(n.Id)
	parent := strconv.Itoa(n.Parent)
	return id + " " + parent + " " + n.Name + ";"
}

// IsFolder tells whether a number is a folder's: Root is one too.
func IsFolder(id int) bool { return id%2 == 0 }

// IsName tells whether a text is a name of the node id.
func IsName(name string, id int) bool {
	plain := plainBytes(name)
	if plain < 1 || plain > api.MaxName {
		return false
	}
	return plain == len(name) || name[plain:] == "~"+strconv.Itoa(id)
}

// plainBytes counts the bytes ahead of the first that every name's plain part forbids.
func plainBytes(name string) int {
	n := 0
	for n < len(name) && isPlain(name[n]) {
		n++
	}
	return n
}

func isPlain(c byte) bool {
	return (c >= 'a' && c <= 'z') || (c >= '0' && c <= '9') || c == '.'
}
