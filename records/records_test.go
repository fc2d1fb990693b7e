package records

import (
	"slices"
	"strings"
	"testing"
)

func TestCut(t *testing.T) {
	for _, c := range []struct {
		text string
		want []string
	}{
		{"", nil},
		{";", []string{";"}},
		{"a", []string{"a"}},
		{"a;b;", []string{"a;", "b;"}},
		{"a;b", []string{"a;", "b"}},
		{";;\n", []string{";", ";", "\n"}},
	} {
		if got := Cut(c.text); !slices.Equal(got, c.want) {
			t.Errorf("Cut(%q) = %q, want %q", c.text, got, c.want)
		}
	}
}

func TestBody(t *testing.T) {
	for _, c := range []struct {
		record, want string
		closed       bool
	}{
		{"", "", false}, {"a", "", false}, {";", "", true}, {"a b;", "a b", true},
	} {
		if got, closed := Body(c.record); got != c.want || closed != c.closed {
			t.Errorf("Body(%q) = %q, %v, want %q, %v", c.record, got, closed, c.want, c.closed)
		}
	}
}

func TestParts(t *testing.T) {
	for _, c := range []struct {
		body string
		want []string
	}{
		{"", []string{""}},
		{"a", []string{"a"}},
		{"a b c", []string{"a", "b", "c"}},
		{"a  b", []string{"a", "", "b"}},
		{" a ", []string{"", "a", ""}},
		{"a\tb", []string{"a\tb"}},
	} {
		if got := Parts(c.body); !slices.Equal(got, c.want) {
			t.Errorf("Parts(%q) = %q, want %q", c.body, got, c.want)
		}
	}
}

func TestNumber(t *testing.T) {
	for _, c := range []struct {
		text        string
		least, most int
		want        int
		fits        bool
	}{
		{"0", 0, 99, 0, true}, {"1", 1, 99, 1, true}, {"99", 1, 99, 99, true}, {"10", 0, 99, 10, true}, {"9999", 1, 9999, 9999, true},
	} {
		if got, fits := Number(c.text, c.least, c.most); got != c.want || fits != c.fits {
			t.Errorf("Number(%q, %d, %d) = %d, %v, want %d, %v", c.text, c.least, c.most, got, fits, c.want, c.fits)
		}
	}
	for _, text := range []string{"", "0", "00", "01", "100", "-1", "+1", "1.", "a", " 1", "1 ", "1/", "1:", "\u0661", "18446744073709551617", strings.Repeat("9", 4000)} {
		if _, fits := Number(text, 1, 99); fits {
			t.Errorf("Number(%.30q, 1, 99) fits", text)
		}
	}
}
