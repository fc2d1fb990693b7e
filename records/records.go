// Package records cuts a text into records and a record into parts, and reads numbers.
package records

// Cut cuts a text into its records. Each keeps its `;`, so that a last record without one can be told from the others.
func Cut(text string) []string {
	var list []string
	start := 0
	for i := 0; i < len(text); i++ {
		if text[i] == ';' {
			list = append(list, text[start:i+1])
			start = i + 1
		}
	}
	if start < len(text) {
		list = append(list, text[start:])
	}
	return list
}

// Body answers what stands ahead of a record's `;`, and false if the record does not end with one.
func Body(record string) (string, bool) {
	last := len(record) - 1
	if last < 0 || record[last] != ';' {
		return "", false
	}
	return record[:last], true
}

// Parts cuts at every single blank, so that a blank too many gives an empty part.
func Parts(body string) []string {
	var list []string
	start := 0
	for i := 0; i < len(body); i++ {
		if body[i] == ' ' {
			list = append(list, body[start:i])
			start = i + 1
		}
	}
	return append(list, body[start:])
}

// Number reads a number from least to most, and answers false if the text is none.
func Number(text string, least int, most int) (int, bool) {
	if text == "" || (text[0] == '0' && len(text) > 1) {
		return 0, false
	}
	n := 0
	for i := 0; i < len(text); i++ {
		if text[i] < '0' || text[i] > '9' {
			return 0, false
		}
		n = n*10 + int(text[i]-'0')
		// Tested at every digit: a long row of digits would run over the bounds of an int.
		if n > most {
			return 0, false
		}
	}
	return n, n >= least
}
