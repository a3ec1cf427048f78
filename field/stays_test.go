package field_test

import (
	"math"
	"slices"
	"testing"

	"shutter/api"
	"shutter/field"
)

// allCalls hands a screen, and a number, to every call.
func allCalls(s api.Screen, a int) {
	field.Formatted(s)
	field.Begins(s)
	field.Begin(s, a)
	field.Cells(s, a)
	field.Of(s, a)
	field.Open(s, a)
	field.Next(s, a)
	field.Prev(s, a)
}

// P11.4: what is handed in stays, the room behind its cells among it.
func TestHandedInStays(t *testing.T) {
	everyScreen(func(s api.Screen) {
		room := append(slices.Clone(s.Cells), api.Cell{Char: 0xc1}, api.Cell{Field: true})
		was := slices.Clone(room)
		s.Cells, s.Cursor, s.Insert = room[:len(s.Cells)], len(s.Cells)-1, true
		for a := range s.Cells {
			allCalls(s, a)
		}
		if !slices.Equal(room, was) {
			t.Fatalf("%v, not %v", room, was)
		}
	})
}

// shares tells whether two lists share memory, up to their capacities.
func shares(a, b []int) bool {
	for i := range a[:cap(a)] {
		for j := range b[:cap(b)] {
			if &a[:cap(a)][i] == &b[:cap(b)][j] {
				return true
			}
		}
	}
	return false
}

// P11.4: the lists that are answered are new each time: what is done to one isn't seen in the next.
func TestListsAreNew(t *testing.T) {
	for _, picture := range []string{".", "ab.c", "o", "o..p..n", "..m..", "opq", "..p.oo."} {
		s := filled(shape{3, 7}, picture)
		was := twin(s)
		begins, again := field.Begins(s), field.Begins(s)
		if shares(begins, again) {
			t.Errorf("%s: Begins in one memory", picture)
		}
		for a := range s.Cells {
			first, second := field.Cells(s, a), field.Cells(s, a)
			if shares(first, second) || shares(first, begins) {
				t.Errorf("%s: Cells of %d in one memory", picture, a)
			}
			for i := range first {
				first[i] = -1
			}
			_ = append(first, -1, -1)
		}
		for i := range begins {
			begins[i] = -1
		}
		_ = append(begins, -1, -1)
		checkScreen(t, s, every(s)...)
		if !alike(s, was) {
			t.Errorf("%v, not %v", s, was)
		}
	}
}

// P11.4: what was answered stays, when the screen is changed behind it, and the next answer is of the screen as it is then.
func TestAnswersAreKeptApart(t *testing.T) {
	s := drawn("o..p..")
	begins, cells := field.Begins(s), field.Cells(s, 1)
	for i := range s.Cells {
		s.Cells[i] = cellOf('p')
	}
	if !slices.Equal(begins, []int{0, 3}) || !slices.Equal(cells, []int{1, 2}) {
		t.Errorf("%v and %v", begins, cells)
	}
	checkScreen(t, s, every(s)...)
	for i := range s.Cells {
		s.Cells[i] = cellOf('a')
	}
	checkScreen(t, s, every(s)...)
}

// wrongScreens is screens that aren't right: without cells, with more or fewer than rows and columns tell, with a cursor that is none, with cells that aren't right.
func wrongScreens() []api.Screen {
	list := []api.Screen{{}, {Cells: []api.Cell{}}, {Rows: 1, Cols: 1}, {Rows: 24, Cols: 80, Cursor: 5}, {Rows: math.MaxInt, Cols: math.MinInt, Cursor: math.MinInt, Locked: true}, {Rows: -1, Cols: -1, Insert: true}}
	for _, n := range []int{1, 2, 11, most + 1, 40000} {
		for _, x := range []shape{{0, 0}, {3, 4}, {-1, -n}, {n, 2}, {half, half}, {math.MaxInt, math.MaxInt}} {
			plain := api.Screen{Rows: x.rows, Cols: x.cols, Cells: make([]api.Cell, n), Cursor: n}
			list = append(list, plain)
			one := twin(plain)
			one.Cells[n/2] = cellOf('o')
			list = append(list, one)
		}
	}
	for _, c := range []api.Cell{{Char: 1}, {Char: 0xff}, {Field: true, Char: 0xc1}, {Attr: api.Attr{Protected: true}}, {Field: true, Attr: api.Attr{Show: 4}}, {Field: true, Attr: api.Attr{Protected: true, Show: math.MinInt}}} {
		list = append(list,
			api.Screen{Rows: 1, Cols: 2, Cells: []api.Cell{c, c}, Cursor: -1},
			api.Screen{Rows: 1, Cols: 3, Cells: []api.Cell{{Char: 0xc1}, c, {Field: true}}, Cursor: math.MaxInt, Locked: true})
	}
	return list
}

// P1: no call panics at screens that aren't right, or at numbers that are no cells, of which no more is promised; what is handed in stays there, too.
func TestWrongScreens(t *testing.T) {
	list := wrongScreens()
	for _, picture := range []string{".", "o", "p", "..a", "o..p.n", "opq"} {
		list = append(list, drawn(picture))
	}
	for _, s := range list {
		was, size := twin(s), len(s.Cells)
		for _, a := range []int{0, 1, 2, -1, -2, size - 1, size, size + 1, -size, 2 * size, half, -half, half + size, math.MaxInt, math.MaxInt - 1, math.MinInt, math.MinInt + 1} {
			allCalls(s, a)
		}
		if !alike(s, was) {
			t.Fatalf("%d by %d, %d cells: not as it was", s.Rows, s.Cols, size)
		}
	}
}
