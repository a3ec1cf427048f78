package move_test

import (
	"errors"
	"math/bits"
	"strings"
	"testing"

	"shutter/api"
	"shutter/grid"
	"shutter/move"
)

// most is as many cells as a screen has at most, by the document's words; none is a field that there isn't.
const (
	most = 16383
	none = -1
)

// half is a number none of whose lower bits are set.
const half = 1 << (bits.UintSize / 2)

// The moves, by their numbers in api: those that go by cells, and those that go by fields.
var (
	steps  = []int{api.KeyLeft, api.KeyRight, api.KeyUp, api.KeyDown}
	leaps  = []int{api.KeyTab, api.KeyBack, api.KeyHome, api.KeyLine}
	moves  = append(append([]int{}, steps...), leaps...)
	others = []int{api.KeyType, api.KeyDup, api.KeyMark, api.KeyDelete, api.KeyToEnd, api.KeyAll, api.KeyInsert, api.KeyReset, api.KeyAid}
)

// shape is rows and columns.
type shape struct{ rows, cols int }

// smalls is shapes of few cells, great is shapes of screens of as many cells as there may be, or nearly.
var (
	smalls = []shape{{1, 1}, {1, 2}, {2, 1}, {3, 1}, {1, 3}, {2, 2}, {1, 5}, {5, 1}, {2, 3}, {3, 2}}
	great  = []shape{{24, 80}, {1, most}, {most, 1}, {127, 129}, {3, 5461}}
)

// pictures is screens of many kinds: of one cell, one row, one column; not formatted; of open and protected fields, around the end, without cells; with no open field.
var pictures = []string{
	"a", ".", "O", "q", "ab.", "a/b/.", "abc/.../d.e", "oab.", "ab.o", "a/o/b", "o/./n", "pa.b", "p/./Q/b", "ab/.Q/c.", "qpq", "q/p", "on", "o/O/n", "opoq",
	"oa./b..", "pa./o..", "pa./..o", "..o/pa.", "..p/oa.", "oo./n..", "o.p/n.q/o.p", "p../.o./p..", "p../p../o..", "o../p../p..", "...p/...o/...p", "on/.o/pq/.p", "p.o.n/.q..o/.p.op/N...Q",
}

// cellOf is a cell of a picture.
func cellOf(b byte) api.Cell {
	switch b {
	case 'o', 'O':
		return api.Cell{Field: true, Attr: api.Attr{Show: 1, Modified: b == 'O'}}
	case 'n', 'N':
		return api.Cell{Field: true, Attr: api.Attr{Numeric: true, Modified: b == 'N'}}
	case 'p', 'P':
		return api.Cell{Field: true, Attr: api.Attr{Protected: true, Show: 3, Modified: b == 'P'}}
	case 'q', 'Q':
		return api.Cell{Field: true, Attr: api.Attr{Protected: true, Numeric: true, Show: 2, Modified: b == 'Q'}}
	case '.':
		return api.Cell{}
	}
	return api.Cell{Char: 0xc1 + b - 'a'}
}

// filled is a right screen of this shape, the picture laid on it again and again: o and n are open fields, p and q protected ones, n and q Numeric, large letters are Modified; a dot is Char 0, a to i are letters.
func filled(x shape, picture string) api.Screen {
	s := api.Screen{Rows: x.rows, Cols: x.cols}
	for i := range x.rows * x.cols {
		s.Cells = append(s.Cells, cellOf(picture[i%len(picture)]))
	}
	return s
}

// drawn is the right screen that a picture shows, with the cursor there; a stroke ends a row.
func drawn(picture string, cursor int) api.Screen {
	rows := strings.Split(picture, "/")
	s := filled(shape{len(rows), len(rows[0])}, strings.Join(rows, ""))
	s.Cursor = cursor
	return s
}

// flagged is the screen Locked and with Insert, or without, as n tells: 0 to 3.
func flagged(s api.Screen, n int) api.Screen {
	s.Locked, s.Insert = n&1 != 0, n&2 != 0
	return s
}

// attrs is all attributes.
func attrs() []api.Attr {
	var list []api.Attr
	for n := range 32 {
		list = append(list, api.Attr{Protected: n&16 != 0, Numeric: n&8 != 0, Show: n >> 1 & 3, Modified: n&1 != 0})
	}
	return list
}

// numbered is the n-th screen of this shape of those whose cells each are a character, or a field, open or protected; what else they have is of all kinds.
func numbered(x shape, n int) api.Screen {
	s := api.Screen{Rows: x.rows, Cols: x.cols, Cells: make([]api.Cell, x.rows*x.cols)}
	for i, mix := 0, n; i < len(s.Cells); i, mix = i+1, mix/3 {
		if mix%3 == 0 {
			s.Cells[i].Char = []byte{0, 0xc1, 0x40, 0xf0, 0x1c, 0x1e, 0xfe}[(n+i)%7]
			continue
		}
		s.Cells[i] = api.Cell{Field: true, Attr: api.Attr{Protected: mix%3 == 2, Numeric: (n+i)/2%2 == 0, Modified: (n+i)%2 == 0, Show: (n/3 + i) % 4}}
	}
	return s
}

// everyDesk does something with each numbered screen of few cells, and with the pictures, the cursor on each cell, with Insert and without.
func everyDesk(do func(s api.Screen)) {
	each := func(s api.Screen) {
		for s.Cursor = range s.Cells {
			do(flagged(s, 0))
			do(flagged(s, 2))
		}
	}
	for _, x := range smalls {
		count := 1
		for range x.rows * x.cols {
			count *= 3
		}
		for n := range count {
			each(numbered(x, n))
		}
	}
	for _, picture := range pictures {
		each(drawn(picture, 0))
	}
}

// isOpen tells whether the cell is to be typed at, gone back to from there to where its field begins.
func isOpen(s api.Screen, a int) bool {
	for i := range s.Cells {
		if c := s.Cells[(a-i+len(s.Cells))%len(s.Cells)]; c.Field {
			return i > 0 && !c.Attr.Protected
		}
	}
	return true
}

// roomy is where open fields begin that have cells.
func roomy(s api.Screen) []int {
	var list []int
	for a, c := range s.Cells {
		if c.Field && !c.Attr.Protected && !s.Cells[(a+1)%len(s.Cells)].Field {
			list = append(list, a)
		}
	}
	return list
}

// nearest is the first cell of the roomy field that begins the fewest steps from a on, of 1 or -1 each; 0, if there is none.
func nearest(s api.Screen, a, step int) int {
	size := len(s.Cells)
	least, first := size, 0
	for _, begin := range roomy(s) {
		if far := (step*(begin-a)%size + size) % size; far < least {
			least, first = far, (begin+1)%size
		}
	}
	return first
}

// lineFrom is where Line leads to: all cells are asked, from the first one of the next row on.
func lineFrom(s api.Screen, cursor int) int {
	start := (cursor/s.Cols + 1) % s.Rows * s.Cols
	for i := range s.Cells {
		if at := (start + i) % len(s.Cells); isOpen(s, at) {
			return at
		}
	}
	return 0
}

// goal is where the cursor shall be behind a move.
func goal(s api.Screen, kind int) int {
	size, at := len(s.Cells), s.Cursor
	switch kind {
	case api.KeyLeft:
		return (at + size - 1) % size
	case api.KeyRight:
		return (at + 1) % size
	case api.KeyUp:
		return (at + size - s.Cols) % size
	case api.KeyDown:
		return (at + s.Cols) % size
	case api.KeyTab:
		return nearest(s, at+1, 1)
	case api.KeyBack:
		return nearest(s, at-2, -1)
	case api.KeyHome:
		return nearest(s, 0, 1)
	}
	return lineFrom(s, at)
}

// checkMove holds Do against the cell where the cursor shall be; all else is as it was.
func checkMove(t *testing.T, s api.Screen, kind, to int) {
	t.Helper()
	want := s
	want.Cursor = to
	if got, err := move.Do(s, kind); err != nil || !grid.Same(got, want) {
		t.Fatalf("%v, %d: %v (%v), not %v", brief(s), kind, brief(got), err, brief(want))
	}
}

// checkRefused holds Do against an error, with no place; the screen is as it was.
func checkRefused(t *testing.T, s api.Screen, kind int, code api.Errno) {
	t.Helper()
	got, err := move.Do(s, kind)
	var spot *api.Spot
	if !errors.Is(err, code) || api.Code(err) != int(code) || errors.As(err, &spot) || api.Where(err) != none || !grid.Same(got, s) {
		t.Fatalf("%v, %d: %v (%d at %d), not %d", brief(s), kind, brief(got), api.Code(err), api.Where(err), code)
	}
}

// moved is the screen behind moves, one by one.
func moved(t *testing.T, s api.Screen, kinds ...int) api.Screen {
	t.Helper()
	for _, kind := range kinds {
		var err error
		if s, err = move.Do(s, kind); err != nil {
			t.Fatalf("%v, %d: %v", brief(s), kind, err)
		}
	}
	return s
}

// brief is the screen with its first cells alone, to be told.
func brief(s api.Screen) api.Screen {
	s.Cells = s.Cells[:min(12, len(s.Cells))]
	return s
}

// apart tells whether no two of the lists share memory, up to their capacities.
func apart[T any](lists [][]T) bool {
	seen := map[*T]bool{}
	for _, l := range lists {
		l = l[:cap(l)]
		for i := range l {
			if seen[&l[i]] {
				return false
			}
			seen[&l[i]] = true
		}
	}
	return true
}
