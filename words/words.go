// Package words says which names, values and contents of datasets may be.
package words

import (
	"strings"

	"undercroft/api"
)

// Part tells whether a text is a part of a name.
func Part(s string) bool {
	if len(s) < 1 || len(s) > api.MaxPart {
		return false
	}
	for i := range len(s) {
		c := s[i]
		plain := c >= 'a' && c <= 'z' || c >= '0' && c <= '9'
		if !plain && (i == 0 || c != '.' && c != '_' && c != '-') {
			return false
		}
	}
	return true
}

// Parts tells whether a text is 1 to so many parts with `/` between two of them.
func Parts(s string, most int) bool {
	if strings.Count(s, "/") >= most {
		return false
	}
	for _, p := range strings.Split(s, "/") {
		if !Part(p) {
			return false
		}
	}
	return true
}

// Dataset tells whether a text is a dataset's name.
func Dataset(s string) bool { return len(s) <= api.MaxText && Parts(s, api.MaxDepth) }

// Printed tells whether all of a text's bytes are 32 to 126.
func Printed(s string) bool {
	for i := range len(s) {
		if s[i] < 32 || s[i] > 126 {
			return false
		}
	}
	return true
}

// Value tells whether a text may be a property's value.
func Value(s string) bool { return len(s) >= 1 && len(s) <= api.MaxValue && Printed(s) }

// Content tells whether cells may be a content; their births are not looked at.
func Content(l []api.Cell) bool {
	if len(l) > api.MaxCells {
		return false
	}
	for i, c := range l {
		if c.Object < 1 || c.Object > api.MaxObjectNo || c.At < -1 || c.At > api.MaxAt || len(c.Data) < 1 || len(c.Data) > api.Chunk {
			return false
		}
		if i > 0 && !Ahead(l[i-1], c) {
			return false
		}
	}
	return true
}

// Ahead tells whether a cell stands ahead of another one.
func Ahead(x, y api.Cell) bool {
	return x.Object < y.Object || x.Object == y.Object && x.At < y.At
}

// Copy is cells in memory of their own.
func Copy(l []api.Cell) []api.Cell {
	var out []api.Cell
	for _, c := range l {
		c.Data = append([]byte(nil), c.Data...)
		out = append(out, c)
	}
	return out
}
