package paint_test

import (
	"errors"
	"slices"
	"testing"

	"shutter/api"
	"shutter/paint"
)

// most is as many cells as a screen has at most, by the document's words.
const most = 16383

// star is the character that a picture shows as a star.
const star = 0x5c

// shape is rows and columns.
type shape struct{ rows, cols int }

// great is shapes of screens of as many cells as there may be.
var great = []shape{{1, most}, {most, 1}, {127, 129}}

// attrs is all attributes.
func attrs() []api.Attr {
	var list []api.Attr
	for n := range 32 {
		list = append(list, api.Attr{Protected: n&16 != 0, Numeric: n&8 != 0, Show: n >> 1 & 3, Modified: n&1 != 0})
	}
	return list
}

// chars is all characters, by the document's words.
func chars() []byte {
	list := []byte{0, 0x1c, 0x1e}
	for b := byte(0x40); b <= 0xfe; b++ {
		list = append(list, b)
	}
	return list
}

// cellOf is a cell of a picture: a field with its attribute, a blank, a star, or a letter.
func cellOf(b byte) api.Cell {
	switch b {
	case 'o':
		return api.Cell{Field: true}
	case 'n':
		return api.Cell{Field: true, Attr: api.Attr{Numeric: true}}
	case 'm':
		return api.Cell{Field: true, Attr: api.Attr{Modified: true, Show: 3}}
	case 'p':
		return api.Cell{Field: true, Attr: api.Attr{Protected: true}}
	case 'q':
		return api.Cell{Field: true, Attr: api.Attr{Protected: true, Numeric: true, Show: 2, Modified: true}}
	case '.':
		return api.Cell{}
	case '*':
		return api.Cell{Char: star}
	}
	return api.Cell{Char: 0xc1 + b - 'a'}
}

// drawn is the right screen of one row that a picture shows: o, n and m are open fields, p and q protected ones, a dot is Char 0, and a to i are letters.
func drawn(picture string) api.Screen {
	return filled(shape{1, len(picture)}, picture)
}

// filled is a right screen of this shape, the picture laid on it again and again.
func filled(x shape, picture string) api.Screen {
	s := api.Screen{Rows: x.rows, Cols: x.cols}
	for i := range x.rows * x.cols {
		s.Cells = append(s.Cells, cellOf(picture[i%len(picture)]))
	}
	return s
}

// numbered is the n-th screen of this shape of those whose cells each are a character, an open field or a protected one; its cursor, whether it is locked, and Insert are of all kinds, too.
func numbered(x shape, n int) api.Screen {
	s := api.Screen{Rows: x.rows, Cols: x.cols, Cells: make([]api.Cell, x.rows*x.cols)}
	s.Cursor, s.Locked, s.Insert = n%len(s.Cells), n&1 != 0, n&2 != 0
	for i, mix := 0, n; i < len(s.Cells); i, mix = i+1, mix/3 {
		switch mix % 3 {
		case 0:
			s.Cells[i] = api.Cell{Char: []byte{0, 0xc1, 0x40, 0xf0, 0x1c, 0x1e, 0xfe}[(n+i)%7]}
		default:
			s.Cells[i] = api.Cell{Field: true, Attr: attrs()[mix%3*16-16+(n+5*i)%16]}
		}
	}
	return s
}

// everyScreen does something with each screen of these shapes whose cells are a character, an open field or a protected one.
func everyScreen(do func(s api.Screen), shapes ...shape) {
	for _, x := range shapes {
		count := 1
		for range x.rows * x.cols {
			count *= 3
		}
		for n := range count {
			do(numbered(x, n))
		}
	}
}

// Orders, made short.
func text(picture string) api.Order {
	o := api.Order{Kind: api.Text}
	for i := range len(picture) {
		o.Text = append(o.Text, cellOf(picture[i]).Char)
	}
	return o
}
func start(kind byte) api.Order          { return api.Order{Kind: api.Start, Attr: cellOf(kind).Attr} }
func set(to int) api.Order               { return api.Order{Kind: api.Set, Addr: to} }
func repeat(to int, char byte) api.Order { return api.Order{Kind: api.Repeat, Addr: to, Char: char} }
func erase(to int) api.Order             { return api.Order{Kind: api.Erase, Addr: to} }

var (
	cursor = api.Order{Kind: api.Cursor}
	tab    = api.Order{Kind: api.Tab}
)

// orders is right orders of all kinds for so many cells: to each cell, and texts of one character, of some, just of as many as there are cells, and of more.
func orders(size int) []api.Order {
	list := []api.Order{cursor, tab, start('o'), start('m'), start('q')}
	for _, n := range []int{1, 2, size, size + 1, 2*size + 1} {
		long := make([]byte, n)
		for i := range long {
			long[i] = chars()[(3+50*i)%len(chars())]
		}
		list = append(list, api.Order{Kind: api.Text, Text: long})
	}
	for to := range size {
		list = append(list, set(to), repeat(to, star), repeat(to, 0), erase(to))
	}
	return list
}

// twin is a screen like s, made without any package.
func twin(s api.Screen) api.Screen {
	s.Cells = append([]api.Cell(nil), s.Cells...)
	return s
}

// alike tells whether two screens are.
func alike(a, b api.Screen) bool {
	return a.Rows == b.Rows && a.Cols == b.Cols && a.Cursor == b.Cursor && a.Locked == b.Locked && a.Insert == b.Insert && slices.Equal(a.Cells, b.Cells)
}

// right tells whether a screen is, by the document's words.
func right(s api.Screen) bool {
	for _, c := range s.Cells {
		switch {
		case c.Field && (c.Char != 0 || c.Attr.Show < 0 || c.Attr.Show > 3):
			return false
		case !c.Field && (c.Attr != (api.Attr{}) || !slices.Contains(chars(), c.Char)):
			return false
		}
	}
	return s.Rows*s.Cols == len(s.Cells) && s.Cursor >= 0 && s.Cursor < len(s.Cells)
}

// guards is of each cell whether it is open, told from the fields' beginnings on.
func guards(s api.Screen) []bool {
	open, formatted := make([]bool, len(s.Cells)), false
	for begin, c := range s.Cells {
		if !c.Field {
			continue
		}
		formatted = true
		for at := (begin + 1) % len(s.Cells); !s.Cells[at].Field; at = (at + 1) % len(s.Cells) {
			open[at] = !c.Attr.Protected
		}
	}
	if !formatted {
		for i := range open {
			open[i] = true
		}
	}
	return open
}

// upTo is the cells from a on, up to b, walked step by step; all, if a is b.
func upTo(size, a, b int) []int {
	list := []int{a}
	for at := (a + 1) % size; at != b; at = (at + 1) % size {
		if len(list) == size {
			break
		}
		list = append(list, at)
	}
	return list
}

// done is the screen and the place behind a right order, by the document's words.
func done(s api.Screen, at int, o api.Order) (api.Screen, int) {
	was, s, size := s, twin(s), len(s.Cells)
	switch o.Kind {
	case api.Text:
		for i, c := range o.Text {
			s.Cells[(at+i)%size] = api.Cell{Char: c}
		}
		return s, (at + len(o.Text)) % size
	case api.Start:
		s.Cells[at] = api.Cell{Field: true, Attr: o.Attr}
		return s, (at + 1) % size
	case api.Set:
		return s, o.Addr
	case api.Cursor:
		s.Cursor = at
		return s, at
	case api.Tab:
		for a := at; a < size; a++ {
			if behind := (a + 1) % size; s.Cells[a].Field && !s.Cells[a].Attr.Protected && !s.Cells[behind].Field {
				return s, behind
			}
		}
		return s, 0
	}
	open := guards(was)
	for _, a := range upTo(size, at, o.Addr) {
		switch {
		case o.Kind == api.Repeat:
			s.Cells[a] = api.Cell{Char: o.Char}
		case open[a]:
			s.Cells[a] = api.Cell{}
		}
	}
	return s, o.Addr
}

// checkOne holds One of a right order against what it shall be.
func checkOne(t *testing.T, s api.Screen, at int, o api.Order) {
	t.Helper()
	want, place := done(s, at, o)
	got, to, err := paint.One(s, at, o)
	if err != nil || to != place || !alike(got, want) {
		t.Fatalf("%v from %d, %v: %v at %d (%v), not %v at %d", s, at, o, got, to, err, want, place)
	}
}

// checkAll holds All of right orders against the orders done one by one.
func checkAll(t *testing.T, s api.Screen, at int, l []api.Order) {
	t.Helper()
	want, place := s, at
	for _, o := range l {
		want, place = done(want, place, o)
	}
	got, to, err := paint.All(s, at, l)
	if err != nil || to != place || !alike(got, want) {
		t.Fatalf("%v from %d, %v: %v at %d (%v), not %v at %d", s, at, l, got, to, err, want, place)
	}
}

// checkRefused holds what is answered beside an error: the screen and the place as they were, and the error's number, and its place (-1: it has none, and is no Spot).
func checkRefused(t *testing.T, s, got api.Screen, at, to int, err error, code api.Errno, where int) {
	t.Helper()
	if !alike(got, s) || to != at {
		t.Errorf("beside %v: %v at %d, not %v at %d", err, got, to, s, at)
	}
	var spot *api.Spot
	if !errors.Is(err, code) || api.Where(err) != where || errors.As(err, &spot) != (where >= 0) {
		t.Errorf("%d at %d, not %d at %d", api.Code(err), api.Where(err), code, where)
	}
}
