package logs

import "graft/api"

// Log is a set of ops, kept in their order. No two have the same stamp.
type Log struct {
	ops []Op
}

// Join takes those ops into the log whose stamps are new, and answers how many they are. If they are too many, it takes none.
func (l *Log) Join(list []Op) (int, api.Errno) {
	fresh := l.fresh(list)
	if len(l.ops)+len(fresh) > api.MaxLog {
		return 0, api.ErrFull
	}
	for _, op := range fresh {
		l.insert(op)
	}
	return len(fresh), api.OK
}

// fresh answers the ops whose stamp neither the log nor an op ahead of them has.
func (l *Log) fresh(list []Op) []Op {
	var fresh []Op
	for _, op := range list {
		known := hasStamp(l.ops, op)
		repeated := hasStamp(fresh, op)
		if !known && !repeated {
			fresh = append(fresh, op)
		}
	}
	return fresh
}

// insert lays an op where it belongs in the order.
func (l *Log) insert(op Op) {
	// A copy, as the name is a part of the text that was handed in, and would keep all of it.
	op.Node.Name = string([]byte(op.Node.Name))
	l.ops = append(l.ops, op)
	for i := len(l.ops) - 1; i > 0 && op.isAhead(l.ops[i-1]); i-- {
		l.ops[i] = l.ops[i-1]
		l.ops[i-1] = op
	}
}

// Text writes the ops as a text, in their order.
func (l *Log) Text() string { return Text(l.ops) }
