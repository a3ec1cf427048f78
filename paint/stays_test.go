package paint_test

import (
	"math"
	"slices"
	"testing"

	"shutter/api"
	"shutter/paint"
)

// P12.3: a right screen stays right, with as many cells, Locked and Insert as they were, and the place is a cell; Erase and Tab change no attribute, and Set, Cursor and Tab no cell.
func TestScreensStayRight(t *testing.T) {
	everyScreen(func(s api.Screen) {
		for at := range s.Cells {
			for _, o := range orders(len(s.Cells)) {
				got, to, err := paint.One(s, at, o)
				if err != nil || to < 0 || to >= len(s.Cells) || !right(got) {
					t.Fatalf("%v from %d, %v: %v at %d (%v)", s, at, o, got, to, err)
				}
				if got.Rows != s.Rows || got.Cols != s.Cols || len(got.Cells) != len(s.Cells) || got.Locked != s.Locked || got.Insert != s.Insert || o.Kind != api.Cursor && got.Cursor != s.Cursor {
					t.Fatalf("%v, %v: %v", s, o, got)
				}
				checkAttributes(t, s, got, o.Kind)
			}
		}
	}, shape{1, 1}, shape{2, 1}, shape{1, 3}, shape{2, 2}, shape{5, 1})
}

// checkAttributes holds what an order of this kind may not change.
func checkAttributes(t *testing.T, s, got api.Screen, kind int) {
	t.Helper()
	for i, c := range got.Cells {
		if (kind == api.Erase || kind == api.Tab) && (c.Field != s.Cells[i].Field || c.Attr != s.Cells[i].Attr) {
			t.Fatalf("%v, an order of kind %d: %v at %d", s, kind, c, i)
		}
		if (kind == api.Set || kind == api.Cursor || kind == api.Tab) && c != s.Cells[i] {
			t.Fatalf("%v, an order of kind %d: %v at %d", s, kind, c, i)
		}
	}
}

// P12.3: a right screen stays right behind many orders, too, some of which aren't right.
func TestScreensStayRightBehindMany(t *testing.T) {
	for _, picture := range []string{"abcde", "oa.qb", "ooooo", "....p"} {
		s, at := drawn(picture), 0
		s.Insert = true
		mix := uint32(1)
		for range 20000 {
			mix = mix*1664525 + 1013904223
			list := orders(5)
			if mix>>8%9 == 0 {
				for _, r := range refusedOrders(5) {
					list = append(list, r.order)
				}
			}
			s, at, _ = paint.One(s, at, list[int(mix>>12)%len(list)])
			if !right(s) || at < 0 || at > 4 || len(s.Cells) != 5 || s.Locked || !s.Insert {
				t.Fatalf("%v at %d", s, at)
			}
		}
	}
}

// shares tells whether two lists of cells share memory, up to their capacities.
func shares(a, b []api.Cell) bool {
	for i := range a[:cap(a)] {
		for j := range b[:cap(b)] {
			if &a[:cap(a)][i] == &b[:cap(b)][j] {
				return true
			}
		}
	}
	return false
}

// P12.4: the screen that is handed in stays, the room behind its cells among it, and so do the orders; what is answered is new memory, also where nothing is changed.
func TestAnswersAreNew(t *testing.T) {
	for _, picture := range []string{"a", "o", "..", "abcde", "oa.qb", "p.oon"} {
		room := append(drawn(picture).Cells, cellOf('a'), cellOf('o'))
		was := slices.Clone(room)
		s := drawn(picture)
		s.Cells = room[:len(picture)]
		for at := range s.Cells {
			for _, o := range orders(len(s.Cells)) {
				bytes := append(slices.Clone(o.Text), 0xc1)
				if len(o.Text) > 0 {
					o.Text = bytes[:len(o.Text)]
				}
				text := slices.Clone(bytes)
				one, _, _ := paint.One(s, at, o)
				again, _, _ := paint.One(s, at, o)
				l := []api.Order{o, o, {Kind: 9}}
				all, _, _ := paint.All(s, at, l[:2])
				if shares(one.Cells, room) || shares(all.Cells, room) || shares(one.Cells, again.Cells) || shares(one.Cells, all.Cells) {
					t.Fatalf("%s, %v: in one memory", picture, o)
				}
				if l[2].Kind != 9 || l[0].Kind != o.Kind || l[1].Addr != o.Addr || !slices.Equal(bytes, text) || !slices.Equal(room, was) {
					t.Fatalf("%s, %v: %v, %v", picture, o, room, l)
				}
			}
			none, _, _ := paint.All(s, at, nil)
			if shares(none.Cells, room) || !alike(none, s) {
				t.Fatalf("%s: %v", picture, none)
			}
		}
	}
}

// P12.4: what is done to an answer, or to what was handed in, isn't seen in the other, or in the next answer.
func TestAnswersAreKeptApart(t *testing.T) {
	for _, o := range []api.Order{cursor, tab, set(2), text("ab"), start('q'), repeat(1, star), erase(1)} {
		s := drawn("oa.qb")
		want, place := done(s, 1, o)
		one, _, _ := paint.One(s, 1, o)
		all, _, _ := paint.All(s, 1, []api.Order{o})
		for i := range one.Cells {
			one.Cells[i] = cellOf('i')
		}
		_ = append(one.Cells, cellOf('i'))
		if !alike(s, drawn("oa.qb")) || !alike(all, want) {
			t.Errorf("%v: %v, and %v", o, s, all)
		}
		checkOne(t, s, 1, o)
		for i := range s.Cells {
			s.Cells[i] = cellOf('p')
		}
		for i := range o.Text {
			o.Text[i] = 0xf0
		}
		if !alike(all, want) {
			t.Errorf("%v: %v at %d", o, all, place)
		}
	}
}

// P12.4: what is handed in stays beside an error, too.
func TestHandedInStaysBesideErrors(t *testing.T) {
	for _, r := range refusedOrders(5) {
		s := drawn("oa.qb")
		text := slices.Clone(r.order.Text)
		l := []api.Order{repeat(0, star), cursor, r.order, erase(2)}
		paint.One(s, 3, r.order)
		paint.All(s, 3, l)
		if !alike(s, drawn("oa.qb")) || !slices.Equal(r.order.Text, text) || l[0].Addr != 0 || l[1].Kind != api.Cursor || l[2].Kind != r.order.Kind || l[3].Addr != 2 {
			t.Errorf("%v: %v, %v", r.order, s, l)
		}
	}
}

// wrongScreens is screens that aren't right: without cells, with more or fewer than rows and columns tell, with a cursor that is none, with cells that aren't right.
func wrongScreens() []api.Screen {
	list := []api.Screen{{}, {Cells: []api.Cell{}}, {Rows: 1, Cols: 1}, {Rows: 24, Cols: 80, Cursor: 5}, {Rows: math.MaxInt, Cols: math.MinInt, Cursor: math.MinInt, Locked: true}, {Rows: -1, Cols: -1, Insert: true}}
	for _, n := range []int{1, 2, 11, most + 1, 20000} {
		for _, x := range []shape{{0, 0}, {3, 4}, {-1, -n}, {math.MaxInt, math.MaxInt}} {
			plain := api.Screen{Rows: x.rows, Cols: x.cols, Cells: make([]api.Cell, n), Cursor: n}
			one := twin(plain)
			one.Cells[n/2] = cellOf('o')
			list = append(list, plain, one)
		}
	}
	for _, c := range []api.Cell{{Char: 1}, {Char: 0xff}, {Field: true, Char: 0xc1}, {Attr: api.Attr{Protected: true}}, {Field: true, Attr: api.Attr{Show: 4}}, {Field: true, Attr: api.Attr{Protected: true, Show: math.MinInt}}} {
		list = append(list,
			api.Screen{Rows: 1, Cols: 2, Cells: []api.Cell{c, c}, Cursor: -1},
			api.Screen{Rows: 1, Cols: 3, Cells: []api.Cell{{Char: 0xc1}, c, {Field: true}}, Cursor: math.MaxInt, Locked: true})
	}
	return list
}

// P1: no call panics at screens that aren't right, at places that are no cells, or at orders that are none, of which no more is promised; what is handed in stays there, too.
func TestWrongArguments(t *testing.T) {
	list := wrongScreens()
	for _, picture := range []string{".", "o", "p", "..a", "o..p.n", "opq"} {
		list = append(list, drawn(picture))
	}
	for _, s := range list {
		was, size := twin(s), len(s.Cells)
		l := []api.Order{set(0), repeat(0, star), erase(0), cursor, tab, start('q'), text("ab"), {Kind: api.Text, Text: make([]byte, 50)}}
		for _, to := range []int{1, size - 1, size, -1, math.MinInt} {
			l = append(l, set(to), repeat(to, star), erase(to))
		}
		l = append(l, api.Order{}, api.Order{Kind: 9}, api.Order{Kind: math.MinInt}, api.Order{Kind: api.Text}, start('o'))
		for _, at := range []int{0, 1, -1, size - 1, size, size + 1, -size, 2 * size, math.MaxInt, math.MaxInt - 1, math.MinInt, math.MinInt + 1} {
			for i, o := range l {
				paint.One(s, at, o)
				paint.All(s, at, l[i:i+1])
			}
			paint.All(s, at, nil)
			paint.All(s, at, l[3:7])
			paint.All(s, at, l[:8])
			paint.All(s, at, l)
		}
		if !alike(s, was) {
			t.Fatalf("%d by %d, %d cells: not as it was", s.Rows, s.Cols, size)
		}
	}
}
