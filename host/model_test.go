package host_test

import (
	"errors"
	"testing"

	"shutter/api"
	"shutter/grid"
	"shutter/host"
	"shutter/paint"
)

// most is as many cells as a screen has at most, by the document's words; none is a place that there isn't: of an error that is told alone.
const (
	most = 16383
	none = -1
)

// star is the character that a picture shows as a star.
const star = 0x5c

// The commands that write, and those that read.
var (
	writers = []int{api.CmdWrite, api.CmdErase}
	readers = []int{api.CmdRead, api.CmdMod}
)

// shape is rows and columns.
type shape struct{ rows, cols int }

// sizes is shapes of screens whose addresses are written short and long, about the edge between them, and of as many cells as there may be.
var sizes = []shape{{24, 80}, {64, 64}, {17, 241}, {1, most}, {most, 1}, {127, 129}}

// cellOf is a cell of a picture.
func cellOf(b byte) api.Cell {
	switch b {
	case 'o', 'O':
		return api.Cell{Field: true, Attr: api.Attr{Modified: b == 'O'}}
	case 'n', 'N':
		return api.Cell{Field: true, Attr: api.Attr{Numeric: true, Show: 3, Modified: b == 'N'}}
	case 'p', 'P':
		return api.Cell{Field: true, Attr: api.Attr{Protected: true, Modified: b == 'P'}}
	case 'q', 'Q':
		return api.Cell{Field: true, Attr: api.Attr{Protected: true, Numeric: true, Show: 2, Modified: b == 'Q'}}
	case '.':
		return api.Cell{}
	case '*':
		return api.Cell{Char: star}
	}
	return api.Cell{Char: 0xc1 + b - 'a'}
}

// filled is a right screen of this shape, the picture laid on it again and again: o and n are open fields, p and q protected ones, large letters are Modified; a dot is Char 0, a to i are letters.
func filled(x shape, picture string) api.Screen {
	s := api.Screen{Rows: x.rows, Cols: x.cols}
	for i := range x.rows * x.cols {
		s.Cells = append(s.Cells, cellOf(picture[i%len(picture)]))
	}
	return s
}

// drawn is the right screen of one row that a picture shows, with the cursor there.
func drawn(picture string, cursor int) api.Screen {
	s := filled(shape{1, len(picture)}, picture)
	s.Cursor = cursor
	return s
}

// flagged is the screen Locked and with Insert, or without, as n tells: 0 to 3.
func flagged(s api.Screen, n int) api.Screen {
	s.Locked, s.Insert = n&1 != 0, n&2 != 0
	return s
}

// attrs is all attributes.
func attrs() []api.Attr {
	var list []api.Attr
	for n := range 32 {
		list = append(list, api.Attr{Protected: n&16 != 0, Numeric: n&8 != 0, Show: n >> 1 & 3, Modified: n&1 != 0})
	}
	return list
}

// numbered is the n-th screen of this shape of those whose cells each are a character, or a field, open or protected, Modified or not; what else they have is of all kinds.
func numbered(x shape, n int) api.Screen {
	s := api.Screen{Rows: x.rows, Cols: x.cols, Cells: make([]api.Cell, x.rows*x.cols)}
	for i, mix := 0, n; i < len(s.Cells); i, mix = i+1, mix/5 {
		if mix%5 == 0 {
			s.Cells[i].Char = []byte{0xc1, 0, 0x40, 0xf0, 0x1c, 0x1e, 0xfe}[(n+i)%7]
			continue
		}
		kind := mix%5 - 1
		s.Cells[i] = api.Cell{Field: true, Attr: api.Attr{Protected: kind&2 != 0, Modified: kind&1 != 0, Numeric: (n+i)%2 == 0, Show: (n/3 + i) % 4}}
	}
	return s
}

// everyScreen does something with each numbered screen of these shapes, with the cursor on each cell, Locked and not, with Insert and without.
func everyScreen(do func(s api.Screen), shapes ...shape) {
	for _, x := range shapes {
		count := 1
		for range x.rows * x.cols {
			count *= 5
		}
		for n := range count {
			s := numbered(x, n)
			for s.Cursor = range s.Cells {
				for flags := range 4 {
					do(flagged(s, flags))
				}
			}
		}
	}
}

// Orders, made short.
func text(picture string) api.Order {
	o := api.Order{Kind: api.Text}
	for i := range len(picture) {
		o.Text = append(o.Text, cellOf(picture[i]).Char)
	}
	return o
}
func start(kind byte) api.Order          { return api.Order{Kind: api.Start, Attr: cellOf(kind).Attr} }
func set(to int) api.Order               { return api.Order{Kind: api.Set, Addr: to} }
func repeat(to int, char byte) api.Order { return api.Order{Kind: api.Repeat, Addr: to, Char: char} }
func erase(to int) api.Order             { return api.Order{Kind: api.Erase, Addr: to} }

var (
	cursor = api.Order{Kind: api.Cursor}
	tab    = api.Order{Kind: api.Tab}
)

// orders is right orders of all kinds for so many cells, to the first, a middle and the last one.
func orders(size int) []api.Order {
	list := []api.Order{cursor, tab, start('o'), start('N'), start('p'), start('Q'), text("a"), text("bc*d.")}
	for _, to := range []int{0, size / 2, size - 1} {
		list = append(list, set(to), repeat(to, star), repeat(to, 0), erase(to))
	}
	return list
}

// wccs is all that a write may tell besides.
func wccs() []api.Wcc {
	var list []api.Wcc
	for n := range 8 {
		list = append(list, api.Wcc{Alarm: n&4 != 0, Unlock: n&2 != 0, Reset: n&1 != 0})
	}
	return list
}

// done is the screen behind a right command, by the document's words.
func done(s api.Screen, o api.Out) api.Screen {
	s = grid.Copy(s)
	switch o.Cmd {
	case api.CmdErase:
		s = api.Screen{Rows: s.Rows, Cols: s.Cols, Cells: make([]api.Cell, len(s.Cells)), Locked: s.Locked, Insert: s.Insert}
		return written(s, o)
	case api.CmdWrite:
		return written(s, o)
	case api.CmdClean:
		return cleaned(s)
	}
	return s
}

// written is the screen behind what is written on it, in place; of the orders layer 12 tells, one by one.
func written(s api.Screen, o api.Out) api.Screen {
	for i := range s.Cells {
		if o.Wcc.Reset {
			s.Cells[i].Attr.Modified = false
		}
	}
	at := s.Cursor
	for _, x := range o.Orders {
		var err error
		if s, at, err = paint.One(s, at, x); err != nil {
			panic("no right order")
		}
	}
	if o.Wcc.Unlock {
		s.Locked, s.Insert = false, false
	}
	return s
}

// cleaned is the screen behind Clean, in place: gone through cell by cell, from the guard of the field that goes on around the end.
func cleaned(s api.Screen) api.Screen {
	guarded, home := false, 0
	for _, c := range s.Cells {
		guarded = c.Field && c.Attr.Protected || !c.Field && guarded
	}
	for i, c := range s.Cells {
		switch {
		case c.Field:
			guarded = c.Attr.Protected
			s.Cells[i].Attr.Modified = c.Attr.Modified && guarded
		case !guarded:
			s.Cells[i] = api.Cell{}
		}
	}
	for i := len(s.Cells) - 1; i >= 0; i-- { // the first one is told last
		next := (i + 1) % len(s.Cells)
		if s.Cells[i].Field && !s.Cells[i].Attr.Protected && !s.Cells[next].Field {
			home = next
		}
	}
	s.Cursor, s.Locked, s.Insert = home, false, false
	return s
}

// checkDo holds Do of a right command against what it shall be.
func checkDo(t *testing.T, s api.Screen, o api.Out) {
	t.Helper()
	checkScreen(t, s, o, done(s, o))
}

// checkScreen holds Do of a right command against this screen.
func checkScreen(t *testing.T, s api.Screen, o api.Out, want api.Screen) {
	t.Helper()
	got, err := host.Do(s, o)
	if err != nil || !grid.Same(got, want) {
		t.Fatalf("%v, %v: %v (%v), not %v", brief(s), o, brief(got), err, brief(want))
	}
}

// checkRefused holds Do of a command that isn't right: the screen as it was, and the error's number, and its place.
func checkRefused(t *testing.T, s api.Screen, o api.Out, code api.Errno, where int) {
	t.Helper()
	was := grid.Copy(s)
	got, err := host.Do(s, o)
	if !grid.Same(got, was) || !grid.Same(s, was) {
		t.Fatalf("%v beside %v: not as it was", brief(was), err)
	}
	var spot *api.Spot
	if !errors.Is(err, code) || api.Where(err) != where || errors.As(err, &spot) != (where != none) {
		t.Fatalf("command %d: %d at %d, not %d at %d", o.Cmd, api.Code(err), api.Where(err), code, where)
	}
}

// brief is the screen with its first cells alone, to be told.
func brief(s api.Screen) api.Screen {
	s.Cells = s.Cells[:min(12, len(s.Cells))]
	return s
}

// apart tells whether no two of the lists of cells share memory, up to their capacities.
func apart(lists [][]api.Cell) bool {
	seen := map[*api.Cell]bool{}
	for _, l := range lists {
		l = l[:cap(l)]
		for i := range l {
			if seen[&l[i]] {
				return false
			}
			seen[&l[i]] = true
		}
	}
	return true
}
