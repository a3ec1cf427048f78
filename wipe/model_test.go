package wipe_test

import (
	"errors"
	"math/bits"
	"strings"
	"testing"

	"shutter/api"
	"shutter/grid"
	"shutter/wipe"
)

// most is as many cells as a screen has at most, by the document's words; none is a place that there isn't: of an error that is told alone.
const (
	most = 16383
	none = -1
)

// half is a number none of whose lower bits are set.
const half = 1 << (bits.UintSize / 2)

// The kinds of keys that wipe, by their numbers in api, and of those that don't.
var (
	wipes  = []int{api.KeyDelete, api.KeyToEnd, api.KeyAll}
	others = []int{api.KeyType, api.KeyLeft, api.KeyRight, api.KeyUp, api.KeyDown, api.KeyTab, api.KeyBack, api.KeyHome, api.KeyLine, api.KeyDup, api.KeyMark, api.KeyInsert, api.KeyReset, api.KeyAid}
)

// shape is rows and columns.
type shape struct{ rows, cols int }

// smalls is shapes of few cells, great is shapes of screens of as many cells as there may be, or nearly.
var (
	smalls = []shape{{1, 1}, {1, 2}, {2, 1}, {3, 1}, {1, 3}, {2, 2}, {5, 1}}
	great  = []shape{{24, 80}, {1, most}, {most, 1}, {127, 129}}
)

// pictures is screens of many kinds: of one cell, one row, one column; not formatted; of open and protected fields, around the end, without cells; with no open field; Modified and not.
var pictures = []string{
	"a", ".", "O", "q", "..", "abc", "a.b.c", "a/b/c", "abc/.d./e.f", "oa", "aO", "Oabc", "o.ab", "o/a/b", "a/N/1", "n12.", "pa.b", "Qa.b", "a.oc", "abNc.", "abQc.", "p/a/Q/b",
	"oa.pb.", "Oabq.N1", "o.q/pb./nca", "OOa.", "oqN.P", "a.Oq", "pqopq", "oO", "p/q", "Oa.Pb.Nc.Qd.", "oabcpd/.n12q./efgOhi", "c.oqab", "ab.Oc.P.", "N.Q1oa.Qb",
}

// cellOf is a cell of a picture.
func cellOf(b byte) api.Cell {
	switch b {
	case 'o', 'O':
		return api.Cell{Field: true, Attr: api.Attr{Show: 1, Modified: b == 'O'}}
	case 'n', 'N':
		return api.Cell{Field: true, Attr: api.Attr{Numeric: true, Modified: b == 'N'}}
	case 'p', 'P':
		return api.Cell{Field: true, Attr: api.Attr{Protected: true, Show: 3, Modified: b == 'P'}}
	case 'q', 'Q':
		return api.Cell{Field: true, Attr: api.Attr{Protected: true, Numeric: true, Show: 2, Modified: b == 'Q'}}
	case '.':
		return api.Cell{}
	}
	if b <= '9' {
		return api.Cell{Char: 0xf0 + b - '0'}
	}
	return api.Cell{Char: 0xc1 + b - 'a'}
}

// filled is a right screen of this shape, the picture laid on it again and again: o and n are open fields, p and q protected ones, n and q Numeric, large letters are Modified; a dot is Char 0, a to i are letters, 0 to 9 digits.
func filled(x shape, picture string) api.Screen {
	s := api.Screen{Rows: x.rows, Cols: x.cols}
	for i := range x.rows * x.cols {
		s.Cells = append(s.Cells, cellOf(picture[i%len(picture)]))
	}
	return s
}

// drawn is the right screen that a picture shows, with the cursor there; a stroke ends a row.
func drawn(picture string, cursor int) api.Screen {
	rows := strings.Split(picture, "/")
	s := filled(shape{len(rows), len(rows[0])}, strings.Join(rows, ""))
	s.Cursor = cursor
	return s
}

// flagged is the screen Locked and with Insert, or without, as n tells: 0 to 3.
func flagged(s api.Screen, n int) api.Screen {
	s.Locked, s.Insert = n&1 != 0, n&2 != 0
	return s
}

// attrs is all attributes.
func attrs() []api.Attr {
	var list []api.Attr
	for n := range 32 {
		list = append(list, api.Attr{Protected: n&16 != 0, Numeric: n&8 != 0, Show: n >> 1 & 3, Modified: n&1 != 0})
	}
	return list
}

// numbered is the n-th screen of this shape of those whose cells each are Char 0, a letter, or a field, open or protected, Modified or not; what else they have is of all kinds.
func numbered(x shape, n int) api.Screen {
	s := api.Screen{Rows: x.rows, Cols: x.cols, Cells: make([]api.Cell, x.rows*x.cols)}
	for i, mix := 0, n; i < len(s.Cells); i, mix = i+1, mix/6 {
		switch kind := mix % 6; kind {
		case 0:
		case 1:
			s.Cells[i].Char = []byte{0xc1, 0x40, 0xf0, 0x1c, 0x1e, 0xfe}[(n+i)%6]
		default:
			s.Cells[i] = api.Cell{Field: true, Attr: api.Attr{Protected: kind&1 != 0, Modified: kind > 3, Numeric: (n+i)%2 == 0, Show: (n/3 + i) % 4}}
		}
	}
	return s
}

// everyDesk does something with each numbered screen of few cells, and with the pictures, the cursor on each cell, with Insert and without.
func everyDesk(do func(s api.Screen)) {
	each := func(s api.Screen) {
		for s.Cursor = range s.Cells {
			do(flagged(s, 0))
			do(flagged(s, 2))
		}
	}
	for _, x := range smalls {
		count := 1
		for range x.rows * x.cols {
			count *= 6
		}
		for n := range count {
			each(numbered(x, n))
		}
	}
	for _, picture := range pictures {
		each(drawn(picture, 0))
	}
}

// ownerOf is where the field of a begins, gone back to from a on; none, if there is no field.
func ownerOf(s api.Screen, a int) int {
	for i := range s.Cells {
		if at := (a - i + len(s.Cells)) % len(s.Cells); s.Cells[at].Field {
			return at
		}
	}
	return none
}

// isOpen tells whether the cell may be wiped.
func isOpen(s api.Screen, a int) bool {
	owner := ownerOf(s, a)
	return owner == none || owner != a && !s.Cells[owner].Attr.Protected
}

// lineOf is the line of an open cell, gone along from it on: to the next field, or, where there is none, to the screen's end.
func lineOf(s api.Screen, a int) []int {
	size, formatted := len(s.Cells), ownerOf(s, a) != none
	var list []int
	for at := a; !s.Cells[at%size].Field && (formatted || at < size); at++ {
		list = append(list, at%size)
	}
	return list
}

// wiped is what Do shall be: the screen, and the error's number, 0 of none.
func wiped(s api.Screen, kind int) (api.Screen, api.Errno) {
	want := grid.Copy(s)
	switch {
	case kind != api.KeyDelete && kind != api.KeyToEnd && kind != api.KeyAll:
		return want, api.ErrArg
	case s.Locked:
		return want, api.ErrLocked
	case kind == api.KeyAll:
		return emptied(want), 0
	case !isOpen(s, s.Cursor):
		want.Locked = true
		return want, api.ErrGuard
	}
	line := lineOf(s, s.Cursor)
	for i, at := range line {
		want.Cells[at].Char = 0
		if kind == api.KeyDelete && i < len(line)-1 {
			want.Cells[at].Char = s.Cells[line[i+1]].Char
		}
	}
	if owner := ownerOf(s, s.Cursor); owner != none {
		want.Cells[owner].Attr.Modified = true
	}
	return want, 0
}

// emptied is the screen behind all input, in place: gone through cell by cell, from the guard of the field that goes on around the end.
func emptied(s api.Screen) api.Screen {
	guarded := false
	for _, c := range s.Cells {
		guarded = c.Field && c.Attr.Protected || !c.Field && guarded
	}
	for i, c := range s.Cells {
		switch {
		case c.Field:
			guarded = c.Attr.Protected
			s.Cells[i].Attr.Modified = c.Attr.Modified && guarded
		case !guarded:
			s.Cells[i].Char = 0
		}
	}
	s.Cursor = home(s)
	return s
}

// home is the first cell of the open field that begins first of those that have cells; 0, if there is none.
func home(s api.Screen) int {
	for i, c := range s.Cells {
		next := (i + 1) % len(s.Cells)
		if c.Field && !c.Attr.Protected && !s.Cells[next].Field {
			return next
		}
	}
	return 0
}

// checkDo holds Do against what it shall be.
func checkDo(t *testing.T, s api.Screen, kind int) {
	t.Helper()
	want, code := wiped(s, kind)
	checkWiped(t, s, kind, want, code)
}

// checkWiped holds Do against this screen and the error of this number, 0 of none; a refusal's place is the cursor, and no other error has one.
func checkWiped(t *testing.T, s api.Screen, kind int, want api.Screen, code api.Errno) {
	t.Helper()
	where := none
	if code == api.ErrGuard {
		where = s.Cursor
	}
	got, err := wipe.Do(s, kind)
	if !grid.Same(got, want) {
		t.Fatalf("%v, %d: %v (%v), not %v", brief(s), kind, brief(got), err, brief(want))
	}
	var spot *api.Spot
	if code == 0 && err != nil || code != 0 && !errors.Is(err, code) {
		t.Fatalf("%v, %d: %v, not %d", brief(s), kind, err, code)
	}
	if api.Code(err) != int(code) || api.Where(err) != where || errors.As(err, &spot) != (where != none) {
		t.Fatalf("%v, %d: %d at %d, not %d at %d", brief(s), kind, api.Code(err), api.Where(err), code, where)
	}
}

// brief is the screen with its first cells alone, to be told.
func brief(s api.Screen) api.Screen {
	s.Cells = s.Cells[:min(12, len(s.Cells))]
	return s
}

// apart tells whether no two of the lists of cells share memory, up to their capacities.
func apart(lists [][]api.Cell) bool {
	seen := map[*api.Cell]bool{}
	for _, l := range lists {
		l = l[:cap(l)]
		for i := range l {
			if seen[&l[i]] {
				return false
			}
			seen[&l[i]] = true
		}
	}
	return true
}
