package edit_test

import (
	"bytes"
	"errors"
	"math/bits"
	"slices"
	"testing"

	"shutter/api"
	"shutter/edit"
	"shutter/grid"
)

// most is as many cells as a screen has at most, by the document's words; none is a place that there isn't: of an error that is told alone.
const (
	most = 16383
	none = -1
)

// half is a number none of whose lower bits are set.
const half = 1 << (bits.UintSize / 2)

// star is the character that a picture shows as a star: a letter, but no digit.
const star = 0x5c

// shape is rows and columns.
type shape struct{ rows, cols int }

// smalls is shapes of few cells, great is shapes of screens of as many cells as there may be, or nearly.
var (
	smalls = []shape{{1, 1}, {1, 2}, {2, 1}, {3, 1}, {1, 3}, {2, 2}, {1, 5}}
	great  = []shape{{24, 80}, {1, most}, {most, 1}, {127, 129}}
)

// pictures is screens of many kinds: not formatted; of one field; of several, open and protected; around the end; of fields without cells; full ones and such with room.
var pictures = []string{
	"a", ".", "O", "q", "..", "abc", "a.b.c", "abcd.", ".abcd", "oa", "aO", "oabc", "oab.", "o.ab", "N12.", "n123", "pa.b", "Qa.b", "a.oc", "abQc.", "1.Nab",
	"oa.pb.", "oabq.n1", "o.qpb.n", "ooa.", "oqn.p", "a.oq", "pqopq", "Oa.Pb.Nc.Qd.", "c.oqab", "ab.oc.p.", "n.q1oa.qb",
}

// cellOf is a cell of a picture.
func cellOf(b byte) api.Cell {
	switch b {
	case 'o', 'O':
		return api.Cell{Field: true, Attr: api.Attr{Show: 1, Modified: b == 'O'}}
	case 'n', 'N':
		return api.Cell{Field: true, Attr: api.Attr{Numeric: true, Modified: b == 'N'}}
	case 'p', 'P':
		return api.Cell{Field: true, Attr: api.Attr{Protected: true, Show: 3, Modified: b == 'P'}}
	case 'q', 'Q':
		return api.Cell{Field: true, Attr: api.Attr{Protected: true, Numeric: true, Show: 2, Modified: b == 'Q'}}
	}
	return api.Cell{Char: charOf(b)}
}

// charOf is a character of a picture.
func charOf(b byte) byte {
	switch {
	case b == '.':
		return 0
	case b == '*':
		return star
	case b >= '0' && b <= '9':
		return 0xf0 + b - '0'
	}
	return 0xc1 + b - 'a'
}

// filled is a right screen of this shape, the picture laid on it again and again: o and n are open fields, p and q protected ones, n and q Numeric, large letters are Modified; a dot is Char 0, a to i are letters, 0 to 9 digits.
func filled(x shape, picture string) api.Screen {
	s := api.Screen{Rows: x.rows, Cols: x.cols}
	for i := range x.rows * x.cols {
		s.Cells = append(s.Cells, cellOf(picture[i%len(picture)]))
	}
	return s
}

// drawn is the right screen of one row that a picture shows, with the cursor there.
func drawn(picture string, cursor int) api.Screen {
	s := filled(shape{1, len(picture)}, picture)
	s.Cursor = cursor
	return s
}

// flagged is the screen Locked and with Insert, or without, as n tells: 0 to 3.
func flagged(s api.Screen, n int) api.Screen {
	s.Locked, s.Insert = n&1 != 0, n&2 != 0
	return s
}

// attrs is all attributes.
func attrs() []api.Attr {
	var list []api.Attr
	for n := range 32 {
		list = append(list, api.Attr{Protected: n&16 != 0, Numeric: n&8 != 0, Show: n >> 1 & 3, Modified: n&1 != 0})
	}
	return list
}

// numbered is the n-th screen of this shape of those whose cells each are Char 0, a letter, or a field, open or protected, Numeric or not; what else they have is of all kinds.
func numbered(x shape, n int) api.Screen {
	s := api.Screen{Rows: x.rows, Cols: x.cols, Cells: make([]api.Cell, x.rows*x.cols)}
	for i, mix := 0, n; i < len(s.Cells); i, mix = i+1, mix/6 {
		switch kind := mix % 6; kind {
		case 0:
		case 1:
			s.Cells[i].Char = []byte{0xc1, 0x40, 0xf0, 0x1c, 0x1e, 0xfe}[(n+i)%6]
		default:
			s.Cells[i] = api.Cell{Field: true, Attr: api.Attr{Protected: kind&1 != 0, Numeric: kind > 3, Modified: (n+i)%2 == 0, Show: (n/3 + i) % 4}}
		}
	}
	return s
}

// everyScreen does something with each numbered screen of few cells.
func everyScreen(do func(s api.Screen)) {
	for _, x := range smalls {
		count := 1
		for range x.rows * x.cols {
			count *= 6
		}
		for n := range count {
			do(numbered(x, n))
		}
	}
}

// everyDesk does something with each of those screens, neither Locked nor with Insert, and with Insert, with the cursor on each cell.
func everyDesk(do func(s api.Screen)) {
	everyScreen(func(s api.Screen) {
		for s.Cursor = range s.Cells {
			do(flagged(s, 0))
			do(flagged(s, 2))
		}
	})
}

// isDigit tells whether the byte is a digit, isLetter whether it is a letter.
func isDigit(c byte) bool {
	return bytes.IndexByte([]byte{0xf0, 0xf1, 0xf2, 0xf3, 0xf4, 0xf5, 0xf6, 0xf7, 0xf8, 0xf9, 0x60, 0x4b}, c) >= 0
}
func isLetter(c byte) bool { return c == 0x1c || c == 0x1e || c > 0x3f && c < 0xff }

// ownerOf is where the field of a begins, gone back to from a on; none, if there is no field.
func ownerOf(s api.Screen, a int) int {
	for i := range s.Cells {
		if at := (a - i + len(s.Cells)) % len(s.Cells); s.Cells[at].Field {
			return at
		}
	}
	return none
}

// lineOf is what Line shall be, gone along from a on.
func lineOf(s api.Screen, a int) []int {
	var list []int
	begin := ownerOf(s, a)
	if begin == none {
		for at := a; at < len(s.Cells); at++ {
			list = append(list, at)
		}
		return list
	}
	if s.Cells[begin].Attr.Protected {
		return nil
	}
	for at := a; !s.Cells[at].Field; at = (at + 1) % len(s.Cells) {
		list = append(list, at)
	}
	return list
}

// modified is what Modify shall be.
func modified(s api.Screen, a int) api.Screen {
	s = grid.Copy(s)
	if begin := ownerOf(s, a); begin != none {
		s.Cells[begin].Attr.Modified = true
	}
	return s
}

// cursorBehind is where the cursor goes on to from a.
func cursorBehind(s api.Screen, a int) int {
	size := len(s.Cells)
	to := (a + 1) % size
	if !s.Cells[to].Field {
		return to
	}
	if guard := s.Cells[to].Attr; guard.Protected && guard.Numeric {
		for i := range size {
			at, next := (to+1+i)%size, (to+2+i)%size
			if s.Cells[at].Field && !s.Cells[at].Attr.Protected && !s.Cells[next].Field {
				return next
			}
		}
	}
	return (to + 1) % size
}

// typed is what Type shall be: the screen, and the error's number, 0 of none.
func typed(s api.Screen, c byte) (api.Screen, api.Errno) {
	line, owner := lineOf(s, s.Cursor), ownerOf(s, s.Cursor)
	refused := grid.Copy(s)
	refused.Locked = true
	switch {
	case !isLetter(c):
		return s, api.ErrByte
	case s.Locked:
		return s, api.ErrLocked
	case line == nil:
		return refused, api.ErrGuard
	case owner != none && s.Cells[owner].Attr.Numeric && !isDigit(c) && c != 0x1c && c != 0x1e:
		return refused, api.ErrDigit
	}
	var chars []byte
	for _, at := range line {
		chars = append(chars, s.Cells[at].Char)
	}
	empty := bytes.IndexByte(chars, 0)
	switch {
	case !s.Insert:
		chars[0] = c
	case empty < 0:
		return refused, api.ErrFull
	default:
		chars = slices.Insert(slices.Delete(chars, empty, empty+1), 0, c)
	}
	s = modified(s, s.Cursor)
	for i, at := range line {
		s.Cells[at].Char = chars[i]
	}
	s.Cursor = cursorBehind(s, s.Cursor)
	return s, 0
}

// placeOf is the place that Type's error of this number tells, with the cursor there.
func placeOf(code api.Errno, cursor int) int {
	if code == api.ErrGuard || code == api.ErrDigit || code == api.ErrFull {
		return cursor
	}
	return none
}

// checkType holds Type against what it shall be.
func checkType(t *testing.T, s api.Screen, c byte) {
	t.Helper()
	want, code := typed(s, c)
	checkTyped(t, s, c, want, code)
}

// checkTyped holds Type against this screen and the error of this number, 0 of none.
func checkTyped(t *testing.T, s api.Screen, c byte, want api.Screen, code api.Errno) {
	t.Helper()
	got, err := edit.Type(s, c)
	if !grid.Same(got, want) {
		t.Fatalf("%v, %02x: %v (%v), not %v", brief(s), c, brief(got), err, brief(want))
	}
	if code == 0 && err != nil {
		t.Fatalf("%v, %02x: %v", brief(s), c, err)
	}
	if code != 0 {
		checkError(t, err, code, placeOf(code, s.Cursor))
	}
}

// checkError holds an error against its number and its place, which is that of a Spot, if there is one.
func checkError(t *testing.T, err error, code api.Errno, where int) {
	t.Helper()
	var spot *api.Spot
	if !errors.Is(err, code) || api.Code(err) != int(code) || api.Where(err) != where || errors.As(err, &spot) != (where != none) {
		t.Fatalf("%d at %d, not %d at %d", api.Code(err), api.Where(err), code, where)
	}
}

// brief is the screen with its first cells alone, to be told.
func brief(s api.Screen) api.Screen {
	s.Cells = s.Cells[:min(12, len(s.Cells))]
	return s
}

// apart tells whether no two of the lists share memory, up to their capacities.
func apart[T any](lists [][]T) bool {
	seen := map[*T]bool{}
	for _, l := range lists {
		l = l[:cap(l)]
		for i := range l {
			if seen[&l[i]] {
				return false
			}
			seen[&l[i]] = true
		}
	}
	return true
}
