package field_test

import (
	"math"
	"math/bits"
	"slices"
	"testing"

	"shutter/api"
	"shutter/field"
)

// most is as many cells as a screen has at most, by the document's words.
const most = 16383

// half is a number none of whose lower bits are set.
const half = 1 << (bits.UintSize / 2)

// shape is rows and columns.
type shape struct{ rows, cols int }

// great is shapes of screens of as many cells as there may be.
var great = []shape{{1, most}, {most, 1}, {127, 129}, {3, 5461}}

// attrs is all attributes that a field of this guard may have.
func attrs(guarded bool) []api.Attr {
	var list []api.Attr
	for n := range 16 {
		list = append(list, api.Attr{Protected: guarded, Numeric: n&1 != 0, Show: n >> 2, Modified: n&2 != 0})
	}
	return list
}

// cellOf is a cell of a picture: a field with its attribute, a blank, or a letter.
func cellOf(b byte) api.Cell {
	switch b {
	case 'o':
		return api.Cell{Field: true}
	case 'n':
		return api.Cell{Field: true, Attr: api.Attr{Numeric: true}}
	case 'm':
		return api.Cell{Field: true, Attr: api.Attr{Modified: true, Show: 3}}
	case 'p':
		return api.Cell{Field: true, Attr: api.Attr{Protected: true}}
	case 'q':
		return api.Cell{Field: true, Attr: api.Attr{Protected: true, Numeric: true, Show: 2, Modified: true}}
	case '.':
		return api.Cell{}
	}
	return api.Cell{Char: 0xc1 + b - 'a'}
}

// drawn is the right screen of one row that a picture shows: o, n and m are open fields, p and q protected ones, a dot is Char 0, and a to e are letters.
func drawn(picture string) api.Screen {
	s := api.Screen{Rows: 1, Cols: len(picture)}
	for i := range len(picture) {
		s.Cells = append(s.Cells, cellOf(picture[i]))
	}
	return s
}

// filled is a right screen of this shape, the picture laid on it again and again.
func filled(x shape, picture string) api.Screen {
	s := api.Screen{Rows: x.rows, Cols: x.cols}
	for i := range x.rows * x.cols {
		s.Cells = append(s.Cells, cellOf(picture[i%len(picture)]))
	}
	return s
}

// withFields is a right screen of this shape, without fields but for this one, at these cells.
func withFields(x shape, kind byte, at ...int) api.Screen {
	s := filled(x, ".")
	for _, a := range at {
		s.Cells[a] = cellOf(kind)
	}
	return s
}

// numbered is the n-th screen of this shape of those whose cells each are a blank or letter, an open field or a protected one, with attributes of all kinds.
func numbered(x shape, n int) api.Screen {
	s := api.Screen{Rows: x.rows, Cols: x.cols, Cells: make([]api.Cell, x.rows*x.cols)}
	open, guarded := attrs(false), attrs(true)
	for i, mix := 0, n; i < len(s.Cells); i, mix = i+1, mix/3 {
		switch mix % 3 {
		case 0:
			s.Cells[i] = api.Cell{Char: []byte{0, 0xc1, 0x40, 0xf0, 0x1c, 0x1e, 0xfe}[(n+i)%7]}
		case 1:
			s.Cells[i] = api.Cell{Field: true, Attr: open[(n+5*i)%16]}
		case 2:
			s.Cells[i] = api.Cell{Field: true, Attr: guarded[(n+5*i)%16]}
		}
	}
	return s
}

// everyScreen does something with each screen of up to seven cells whose cells are a character, an open field or a protected one.
func everyScreen(do func(s api.Screen)) {
	for _, x := range []shape{{1, 1}, {1, 2}, {2, 1}, {3, 1}, {1, 3}, {2, 2}, {1, 4}, {5, 1}, {2, 3}, {3, 2}, {1, 6}, {7, 1}} {
		count := 1
		for range x.rows * x.cols {
			count *= 3
		}
		for n := range count {
			do(numbered(x, n))
		}
	}
}

// owner is, of each cell, where the field begins that it lies in or begins, told from the fields' beginnings on; -1, where there is none.
func owner(s api.Screen) []int {
	list := make([]int, len(s.Cells))
	for i := range list {
		list[i] = -1
	}
	for begin, c := range s.Cells {
		if !c.Field {
			continue
		}
		list[begin] = begin
		for _, at := range fieldCells(s, begin) {
			list[at] = begin
		}
	}
	return list
}

// fieldCells is the cells of the field that begins there: those behind it, up to the next one with Field, which may be itself.
func fieldCells(s api.Screen, begin int) []int {
	var list []int
	for at := (begin + 1) % len(s.Cells); !s.Cells[at].Field; at = (at + 1) % len(s.Cells) {
		list = append(list, at)
	}
	return list
}

// every is all cells, from 0 on.
func every(s api.Screen) []int {
	list := make([]int, len(s.Cells))
	for i := range list {
		list[i] = i
	}
	return list
}

// nearest is the first cell of the open field with cells that is asked ahead of all others, by how late each one is asked, told by its beginning; -1, if there is no such field.
func nearest(s api.Screen, late func(begin int) int) int {
	found, best := -1, math.MaxInt
	for begin, c := range s.Cells {
		if !c.Field || c.Attr.Protected {
			continue
		}
		if l := fieldCells(s, begin); len(l) > 0 && late(begin) < best {
			found, best = l[0], late(begin)
		}
	}
	return found
}

// nextOf is what Next shall be: the cells behind a are asked by how far behind it they are, a itself as the last one.
func nextOf(s api.Screen, a int) int {
	size := len(s.Cells)
	return nearest(s, func(begin int) int {
		if begin == a {
			return size
		}
		return (begin - a + size) % size
	})
}

// prevOf is what Prev shall be: the cells are asked by how far ahead of a they are, a itself behind those, and the one just ahead of it as the last one.
func prevOf(s api.Screen, a int) int {
	size := len(s.Cells)
	return nearest(s, func(begin int) int {
		far := (a - begin + size) % size
		if far < 2 {
			far += size
		}
		return far
	})
}

// twin is a screen like s, made without any package.
func twin(s api.Screen) api.Screen {
	s.Cells = append([]api.Cell(nil), s.Cells...)
	return s
}

// alike tells whether two screens are.
func alike(a, b api.Screen) bool {
	return a.Rows == b.Rows && a.Cols == b.Cols && a.Cursor == b.Cursor && a.Locked == b.Locked && a.Insert == b.Insert && slices.Equal(a.Cells, b.Cells)
}

// checkCell holds all calls that are told a cell against what they shall be of that one.
func checkCell(t *testing.T, s api.Screen, a int, owners []int) {
	t.Helper()
	begin, cells, of := owners[a], every(s), api.Attr{}
	if begin >= 0 {
		cells, of = fieldCells(s, begin), s.Cells[begin].Attr
	}
	if got := field.Begin(s, a); got != begin {
		t.Fatalf("%v: the field of %d begins at %d, not %d", s, a, got, begin)
	}
	if got := field.Cells(s, a); !slices.Equal(got, cells) {
		t.Fatalf("%v: the field of %d has %v, not %v", s, a, got, cells)
	}
	if got := field.Of(s, a); got != of {
		t.Fatalf("%v: the field of %d has %v, not %v", s, a, got, of)
	}
	if got, want := field.Open(s, a), begin < 0 || begin != a && !of.Protected; got != want {
		t.Fatalf("%v: open at %d is %t", s, a, got)
	}
	checkSteps(t, s, a)
}

// checkSteps holds Next and Prev of a cell against what they shall be.
func checkSteps(t *testing.T, s api.Screen, a int) {
	t.Helper()
	if got, want := field.Next(s, a), nextOf(s, a); got != want {
		t.Fatalf("%d by %d cells: Next of %d is %d, not %d", s.Rows, s.Cols, a, got, want)
	}
	if got, want := field.Prev(s, a), prevOf(s, a); got != want {
		t.Fatalf("%d by %d cells: Prev of %d is %d, not %d", s.Rows, s.Cols, a, got, want)
	}
}

// checkScreen holds Formatted and Begins of a screen, and all calls of each of these cells, against what they shall be.
func checkScreen(t *testing.T, s api.Screen, cells ...int) {
	t.Helper()
	var begins []int
	for i, c := range s.Cells {
		if c.Field {
			begins = append(begins, i)
		}
	}
	if got := field.Begins(s); !slices.Equal(got, begins) {
		t.Fatalf("%v: fields begin at %v, not %v", s, got, begins)
	}
	if got := field.Formatted(s); got != (len(begins) > 0) {
		t.Fatalf("%v: formatted is %t", s, got)
	}
	owners := owner(s)
	for _, a := range cells {
		checkCell(t, s, a, owners)
	}
}
