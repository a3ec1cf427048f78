package keys_test

import (
	"bytes"
	"errors"
	"math"
	"math/bits"
	"slices"
	"strings"
	"testing"

	"shutter/api"
	"shutter/grid"
	"shutter/keys"
)

// most is as many cells as a screen has at most, by the document's words; none is a place that there isn't: of an error that is told alone.
const (
	most = 16383
	none = -1
)

// half is a number none of whose lower bits are set.
const half = 1 << (bits.UintSize / 2)

// kinds is how many kinds of keys there are, from 1 on; strange is numbers that are none, beside those that are and far off.
const kinds = 17

var strange = []int{0, -1, -2, -16, -17, 18, 19, 100, 257, 256 + 15, 256 + 16, 256 + 17, half, half + 1, half + 10, half + 16, half + 17, -half, math.MaxInt, math.MaxInt - 1, math.MinInt, math.MinInt + 1, math.MinInt + 11, math.MinInt + 17}

// asking is the bytes of the keys that ask, by the document's words.
var asking = []byte{0x7d, 0x6d, 0x6c, 0x6e, 0x6b, 0xf1, 0xf2, 0xf3, 0xf4, 0xf5, 0xf6, 0xf7, 0xf8, 0xf9, 0x7a, 0x7b, 0x7c}

// press is keys of each kind: letters of each sort and bytes that are none, keys that ask and others; with the rest stands a Char that says nothing.
var press = []api.Key{
	{Kind: api.KeyType, Char: 0xc1}, {Kind: api.KeyType, Char: 0xf0}, {Kind: api.KeyType, Char: 0x60}, {Kind: api.KeyType, Char: 0x1c}, {Kind: api.KeyType, Char: 0x1e}, {Kind: api.KeyType}, {Kind: api.KeyType, Char: 0x1d}, {Kind: api.KeyType, Char: 0xff},
	{Kind: api.KeyLeft, Char: 0xc1}, {Kind: api.KeyRight}, {Kind: api.KeyUp, Char: 0x6d}, {Kind: api.KeyDown, Char: 1}, {Kind: api.KeyTab}, {Kind: api.KeyBack, Char: 0xff}, {Kind: api.KeyHome, Char: 0x7d}, {Kind: api.KeyLine},
	{Kind: api.KeyDup}, {Kind: api.KeyDup, Char: 0xc2}, {Kind: api.KeyDup, Char: 0xff}, {Kind: api.KeyMark}, {Kind: api.KeyMark, Char: 0xc3}, {Kind: api.KeyMark, Char: 0x1c},
	{Kind: api.KeyDelete}, {Kind: api.KeyToEnd, Char: 0xc1}, {Kind: api.KeyAll, Char: 0x6d},
	{Kind: api.KeyInsert}, {Kind: api.KeyInsert, Char: 0x6d}, {Kind: api.KeyReset}, {Kind: api.KeyReset, Char: 0x6d},
	{Kind: api.KeyAid, Char: 0x7d}, {Kind: api.KeyAid, Char: 0x6d}, {Kind: api.KeyAid, Char: 0x6b}, {Kind: api.KeyAid, Char: 0xf9}, {Kind: api.KeyAid}, {Kind: api.KeyAid, Char: 0x60}, {Kind: api.KeyAid, Char: 0xc1},
	{}, {Kind: 18, Char: 0x7d}, {Kind: -1, Char: 0xc1},
}

// shape is rows and columns.
type shape struct{ rows, cols int }

// smalls is shapes of few cells, great is shapes of screens of as many cells as there may be, or nearly.
var (
	smalls = []shape{{1, 1}, {1, 2}, {2, 1}, {3, 1}, {1, 3}, {2, 2}}
	great  = []shape{{24, 80}, {1, most}, {most, 1}, {127, 129}}
)

// pictures is screens of many kinds: of one cell, one row, one column; not formatted; of open and protected fields, Numeric ones, around the end, without cells; with no open field; Modified and not.
var pictures = []string{
	"a", ".", "O", "q", "..", "abc", "a.b.c", "a/b/c", "abc/.d./e.f", "oa", "aO", "Oabc", "o.ab", "o/a/b", "a/N/1", "n12.", "pa.b", "Qa.b", "a.oc", "abNc.", "abQc.", "p/a/Q/b",
	"oa.pb.", "Oabq.N1", "o.q/pb./nca", "OOa.", "oqN.P", "a.Oq", "pqopq", "oO", "p/q", "Oa.Pb.Nc.Qd.", "oabcpd/.n12q./efgOhi", "c.oqab", "ab.Oc.P.", "N.Q1oa.Qb", "o=-.n-=.p=-",
}

// cellOf is a cell of a picture.
func cellOf(b byte) api.Cell {
	switch b {
	case 'o', 'O':
		return api.Cell{Field: true, Attr: api.Attr{Show: 1, Modified: b == 'O'}}
	case 'n', 'N':
		return api.Cell{Field: true, Attr: api.Attr{Numeric: true, Modified: b == 'N'}}
	case 'p', 'P':
		return api.Cell{Field: true, Attr: api.Attr{Protected: true, Show: 3, Modified: b == 'P'}}
	case 'q', 'Q':
		return api.Cell{Field: true, Attr: api.Attr{Protected: true, Numeric: true, Show: 2, Modified: b == 'Q'}}
	case '.':
		return api.Cell{}
	case '=':
		return api.Cell{Char: 0x1c}
	case '-':
		return api.Cell{Char: 0x1e}
	}
	if b <= '9' {
		return api.Cell{Char: 0xf0 + b - '0'}
	}
	return api.Cell{Char: 0xc1 + b - 'a'}
}

// filled is a right screen of this shape, the picture laid on it again and again: o and n are open fields, p and q protected ones, n and q Numeric, large letters are Modified; a dot is Char 0, two strokes are Dup, one is a field mark, a to i are letters, 0 to 9 digits.
func filled(x shape, picture string) api.Screen {
	s := api.Screen{Rows: x.rows, Cols: x.cols}
	for i := range x.rows * x.cols {
		s.Cells = append(s.Cells, cellOf(picture[i%len(picture)]))
	}
	return s
}

// drawn is the right screen that a picture shows, with the cursor there; a slash ends a row.
func drawn(picture string, cursor int) api.Screen {
	rows := strings.Split(picture, "/")
	s := filled(shape{len(rows), len(rows[0])}, strings.Join(rows, ""))
	s.Cursor = cursor
	return s
}

// flagged is the screen Locked and with Insert, or without, as n tells: 0 to 3.
func flagged(s api.Screen, n int) api.Screen {
	s.Locked, s.Insert = n&1 != 0, n&2 != 0
	return s
}

// attrs is all attributes.
func attrs() []api.Attr {
	var list []api.Attr
	for n := range 32 {
		list = append(list, api.Attr{Protected: n&16 != 0, Numeric: n&8 != 0, Show: n >> 1 & 3, Modified: n&1 != 0})
	}
	return list
}

// numbered is the n-th screen of this shape of those whose cells each are Char 0, a letter, or a field, open or protected, Numeric or not; what else they have is of all kinds.
func numbered(x shape, n int) api.Screen {
	s := api.Screen{Rows: x.rows, Cols: x.cols, Cells: make([]api.Cell, x.rows*x.cols)}
	for i, mix := 0, n; i < len(s.Cells); i, mix = i+1, mix/6 {
		switch kind := mix % 6; kind {
		case 0:
		case 1:
			s.Cells[i].Char = []byte{0xc1, 0x40, 0xf0, 0x1c, 0x1e, 0xfe}[(n+i)%6]
		default:
			s.Cells[i] = api.Cell{Field: true, Attr: api.Attr{Protected: kind&1 != 0, Numeric: kind > 3, Modified: (n+i)%2 == 0, Show: (n/3 + i) % 4}}
		}
	}
	return s
}

// everyScreen does something with each numbered screen of few cells, and with the pictures.
func everyScreen(do func(s api.Screen)) {
	for _, x := range smalls {
		count := 1
		for range x.rows * x.cols {
			count *= 6
		}
		for n := range count {
			do(numbered(x, n))
		}
	}
	for _, picture := range pictures {
		do(drawn(picture, 0))
	}
}

// everyDesk does something with each of those screens, the cursor on each cell, Locked and not, with Insert and without.
func everyDesk(do func(s api.Screen)) {
	everyScreen(func(s api.Screen) {
		for s.Cursor = range s.Cells {
			for n := range 4 {
				do(flagged(s, n))
			}
		}
	})
}

// isDigit tells whether the byte is a digit, isLetter whether it is a letter.
func isDigit(c byte) bool  { return c > 0xef && c < 0xfa || c == 0x60 || c == 0x4b }
func isLetter(c byte) bool { return c == 0x1c || c == 0x1e || c > 0x3f && c < 0xff }

// ownerOf is where the field of a begins, gone back to from a on; none, if there is no field.
func ownerOf(s api.Screen, a int) int {
	for i := range s.Cells {
		if at := (a - i + len(s.Cells)) % len(s.Cells); s.Cells[at].Field {
			return at
		}
	}
	return none
}

// isOpen tells whether the cell may be typed at.
func isOpen(s api.Screen, a int) bool {
	owner := ownerOf(s, a)
	return owner == none || owner != a && !s.Cells[owner].Attr.Protected
}

// lineOf is the line of an open cell, gone along from it on: to the next field, or, where there is none, to the screen's end.
func lineOf(s api.Screen, a int) []int {
	size, formatted := len(s.Cells), ownerOf(s, a) != none
	var list []int
	for at := a; !s.Cells[at%size].Field && (formatted || at < size); at++ {
		list = append(list, at%size)
	}
	return list
}

// nearest is the first cell of the open field with cells that begins the fewest steps from a on, of 1 or -1 each; none, if there is no such field.
func nearest(s api.Screen, a, step int) int {
	size := len(s.Cells)
	for i := range size {
		at := ((a+i*step)%size + size) % size
		next := (at + 1) % size
		if s.Cells[at].Field && !s.Cells[at].Attr.Protected && !s.Cells[next].Field {
			return next
		}
	}
	return none
}

// pressed is what Do shall be: the screen, whether the key asks, and the error's number, 0 of none.
func pressed(s api.Screen, k api.Key) (api.Screen, bool, api.Errno) {
	s = grid.Copy(s)
	var code api.Errno
	switch k.Kind {
	case 1:
		s, code = typed(s, k.Char)
	case 2, 3, 4, 5, 6, 7, 8, 9:
		s, code = moved(s, k.Kind)
	case 10:
		to := max(nearest(s, s.Cursor+1, 1), 0)
		if s, code = typed(s, 0x1c); code == 0 {
			s.Cursor = to
		}
	case 11:
		s, code = typed(s, 0x1e)
	case 12, 13, 14:
		s, code = wiped(s, k.Kind)
	case 15:
		if s.Locked {
			return s, false, api.ErrLocked
		}
		s.Insert = true
	case 16:
		s.Locked, s.Insert = false, false
	case 17:
		return asked(s, k.Char)
	default:
		code = api.ErrArg
	}
	return s, false, code
}

// asked is what Do shall be of a key that asks, by this byte.
func asked(s api.Screen, c byte) (api.Screen, bool, api.Errno) {
	switch {
	case bytes.IndexByte(asking, c) < 0:
		return s, false, api.ErrByte
	case s.Locked:
		return s, false, api.ErrLocked
	case c == 0x6d:
		s = api.Screen{Rows: s.Rows, Cols: s.Cols, Cells: make([]api.Cell, len(s.Cells))}
	}
	s.Locked, s.Insert = true, false
	return s, true, 0
}

// typed is the screen behind a letter, in place, and the error's number.
func typed(s api.Screen, c byte) (api.Screen, api.Errno) {
	owner, locked := ownerOf(s, s.Cursor), s.Locked
	s.Locked = true
	switch {
	case !isLetter(c):
		s.Locked = locked
		return s, api.ErrByte
	case locked:
		return s, api.ErrLocked
	case !isOpen(s, s.Cursor):
		return s, api.ErrGuard
	case owner != none && s.Cells[owner].Attr.Numeric && !isDigit(c) && c != 0x1c && c != 0x1e:
		return s, api.ErrDigit
	}
	line := lineOf(s, s.Cursor)
	chars := charsOf(s, line)
	empty := bytes.IndexByte(chars, 0)
	switch {
	case !s.Insert:
		chars[0] = c
	case empty < 0:
		return s, api.ErrFull
	default:
		chars = slices.Insert(slices.Delete(chars, empty, empty+1), 0, c)
	}
	s = written(s, line, chars)
	s.Locked, s.Cursor = false, onward(s)
	return s, 0
}

// charsOf is the characters of these cells.
func charsOf(s api.Screen, cells []int) []byte {
	var list []byte
	for _, at := range cells {
		list = append(list, s.Cells[at].Char)
	}
	return list
}

// written is the screen with these characters in these cells, in place, and the field of the first Modified.
func written(s api.Screen, cells []int, chars []byte) api.Screen {
	for i, at := range cells {
		s.Cells[at].Char = chars[i]
	}
	if owner := ownerOf(s, cells[0]); owner != none {
		s.Cells[owner].Attr.Modified = true
	}
	return s
}

// onward is where the cursor goes on to behind a letter.
func onward(s api.Screen) int {
	size := len(s.Cells)
	to := (s.Cursor + 1) % size
	guard := s.Cells[to]
	switch next := nearest(s, to+1, 1); {
	case !guard.Field:
		return to
	case guard.Attr.Protected && guard.Attr.Numeric && next != none:
		return next
	}
	return (to + 1) % size
}

// moved is the screen behind a move, and the error's number.
func moved(s api.Screen, kind int) (api.Screen, api.Errno) {
	if s.Locked {
		return s, api.ErrLocked
	}
	size := len(s.Cells)
	switch at := s.Cursor; kind {
	case 2:
		s.Cursor = (at + size - 1) % size
	case 3:
		s.Cursor = (at + 1) % size
	case 4:
		s.Cursor = (at + size - s.Cols) % size
	case 5:
		s.Cursor = (at + s.Cols) % size
	case 6:
		s.Cursor = max(nearest(s, at+1, 1), 0)
	case 7:
		s.Cursor = max(nearest(s, at-2, -1), 0)
	case 8:
		s.Cursor = max(nearest(s, 0, 1), 0)
	case 9:
		s.Cursor = lineBehind(s)
	}
	return s, 0
}

// lineBehind is the first open cell from the next row's first one on, around; 0, if there is none.
func lineBehind(s api.Screen) int {
	start := (s.Cursor/s.Cols + 1) % s.Rows * s.Cols
	for i := range s.Cells {
		if at := (start + i) % len(s.Cells); isOpen(s, at) {
			return at
		}
	}
	return 0
}

// wiped is the screen behind a key that wipes, in place, and the error's number.
func wiped(s api.Screen, kind int) (api.Screen, api.Errno) {
	switch {
	case s.Locked:
		return s, api.ErrLocked
	case kind == 14:
		return emptied(s), 0
	case !isOpen(s, s.Cursor):
		s.Locked = true
		return s, api.ErrGuard
	}
	line := lineOf(s, s.Cursor)
	chars := make([]byte, len(line))
	if kind == 12 {
		chars = append(charsOf(s, line)[1:], 0)
	}
	return written(s, line, chars), 0
}

// emptied is the screen behind all input, in place: gone through cell by cell, from the guard of the field that goes on around the end.
func emptied(s api.Screen) api.Screen {
	guarded := false
	for _, c := range s.Cells {
		guarded = c.Field && c.Attr.Protected || !c.Field && guarded
	}
	for i, c := range s.Cells {
		switch {
		case c.Field:
			guarded = c.Attr.Protected
			s.Cells[i].Attr.Modified = c.Attr.Modified && guarded
		case !guarded:
			s.Cells[i].Char = 0
		}
	}
	s.Cursor = max(nearest(s, 0, 1), 0)
	return s
}

// checkPress holds Do against what it shall be.
func checkPress(t *testing.T, s api.Screen, k api.Key) {
	t.Helper()
	want, asks, code := pressed(s, k)
	checkPressed(t, s, k, want, asks, code)
}

// checkPressed holds Do against this screen, whether the key asks, and the error of this number, 0 of none; the place of a refusal that Locks is the cursor, and no other error has one.
func checkPressed(t *testing.T, s api.Screen, k api.Key, want api.Screen, asks bool, code api.Errno) {
	t.Helper()
	where := none
	if code == api.ErrGuard || code == api.ErrDigit || code == api.ErrFull {
		where = s.Cursor
	}
	got, gotAsks, err := keys.Do(s, k)
	if !grid.Same(got, want) || gotAsks != asks {
		t.Fatalf("%v, %v: %v, %t (%v), not %v, %t", brief(s), k, brief(got), gotAsks, err, brief(want), asks)
	}
	var spot *api.Spot
	if code == 0 && err != nil || code != 0 && !errors.Is(err, code) {
		t.Fatalf("%v, %v: %v, not %d", brief(s), k, err, code)
	}
	if api.Code(err) != int(code) || api.Where(err) != where || errors.As(err, &spot) != (where != none) {
		t.Fatalf("%v, %v: %d at %d, not %d at %d", brief(s), k, api.Code(err), api.Where(err), code, where)
	}
}

// brief is the screen with its first cells alone, to be told.
func brief(s api.Screen) api.Screen {
	s.Cells = s.Cells[:min(12, len(s.Cells))]
	return s
}

// apart tells whether no two of the lists of cells share memory, up to their capacities.
func apart(lists [][]api.Cell) bool {
	seen := map[*api.Cell]bool{}
	for _, l := range lists {
		l = l[:cap(l)]
		for i := range l {
			if seen[&l[i]] {
				return false
			}
			seen[&l[i]] = true
		}
	}
	return true
}
