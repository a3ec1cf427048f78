package grid_test

import (
	"errors"
	"math"
	"math/bits"
	"slices"
	"testing"

	"shutter/api"
	"shutter/grid"
)

// most is as many cells as a screen has at most, by the document's words.
const most = 16383

// half is a number none of whose lower bits are set.
const half = 1 << (bits.UintSize / 2)

// shape is rows and columns.
type shape struct{ rows, cols int }

// shapes is screens of one cell, one row, one column, several of each, and of as many cells as there may be.
var shapes = []shape{{1, 1}, {1, 2}, {2, 1}, {1, 7}, {7, 1}, {2, 3}, {3, 4}, {5, 5}, {24, 80}, {127, 129}, {1, most}, {most, 1}, {3, 5461}}

// smalls is shapes of whose screens every cell is asked for with every other one.
var smalls = []shape{{1, 1}, {1, 2}, {2, 1}, {1, 3}, {2, 2}, {1, 7}, {7, 1}, {2, 3}, {3, 4}, {4, 3}, {5, 5}, {6, 9}}

// blank is a right screen with Char 0 in every cell, written out without the package.
func blank(x shape) api.Screen {
	return api.Screen{Rows: x.rows, Cols: x.cols, Cells: make([]api.Cell, x.rows*x.cols)}
}

// filled is a right screen with fields and characters of all kinds, the cursor on its last cell.
func filled(x shape) api.Screen {
	s, kinds := blank(x), rightCells()
	for i := range s.Cells {
		s.Cells[i] = kinds[(i*37+5)%len(kinds)]
	}
	s.Cursor, s.Locked = len(s.Cells)-1, true
	return s
}

// places is the first, a middle and the last cell of so many.
func places(size int) []int { return []int{0, size / 2, size - 1} }

// noCells is numbers that are no cell of so many: near by, far outside, and those whose lower bits are one.
func noCells(size int) []int {
	list := []int{-1, -2, size, size + 1, 2 * size, -size, -size - 1, 16384 + size, 65536, -65536, half, -half, half + size - 1, math.MaxInt32 - 1, math.MinInt32, math.MinInt, math.MinInt + 1, math.MaxInt - 1, math.MaxInt}
	for _, a := range places(size) {
		list = append(list, a+65536, a-65536, a+half, a-half, math.MinInt+a)
	}
	return list
}

// isChar tells the characters by the document's words.
func isChar(b byte) bool { return b >= 0x40 && b <= 0xfe || b == 0 || b == 0x1c || b == 0x1e }

// isCell tells the cells that are right by the document's words.
func isCell(c api.Cell) bool {
	if c.Field {
		return c.Attr.Show >= 0 && c.Attr.Show <= 3 && c.Char == 0
	}
	return !c.Attr.Protected && !c.Attr.Numeric && c.Attr.Show == 0 && !c.Attr.Modified && isChar(c.Char)
}

// attrs is attributes with each of these Shows, and all mixes of what else they have.
func attrs(shows ...int) []api.Attr {
	var list []api.Attr
	for _, show := range shows {
		for n := range 8 {
			list = append(list, api.Attr{Protected: n&1 != 0, Numeric: n&2 != 0, Show: show, Modified: n&4 != 0})
		}
	}
	return list
}

// rightCells is every cell that is right.
func rightCells() []api.Cell {
	var list []api.Cell
	for i := range 256 {
		if isChar(byte(i)) {
			list = append(list, api.Cell{Char: byte(i)})
		}
	}
	for _, a := range attrs(0, 1, 2, 3) {
		list = append(list, api.Cell{Field: true, Attr: a})
	}
	return list
}

// wrongCells is cells that aren't right: bytes that are no characters, a Char in a field's cell, an Attr in another one, a Show that is none.
func wrongCells() []api.Cell {
	var list []api.Cell
	for i := range 256 {
		b := byte(i)
		if !isChar(b) {
			list = append(list, api.Cell{Char: b})
		}
		if b != 0 {
			list = append(list, api.Cell{Field: true, Char: b}, api.Cell{Field: true, Char: b, Attr: api.Attr{Protected: true, Show: 3}})
		}
	}
	for _, a := range attrs(0, 1, 2, 3)[1:] {
		list = append(list, api.Cell{Attr: a}, api.Cell{Attr: a, Char: 0xc1}, api.Cell{Attr: a, Char: 1})
	}
	for _, a := range attrs(-1, 4, 5, -4, 64, 256, 257, -256, half, half+1, -half, math.MaxInt, math.MinInt, math.MinInt+3) {
		list = append(list, api.Cell{Field: true, Attr: a}, api.Cell{Field: true, Attr: a, Char: 0xc1}, api.Cell{Attr: a})
	}
	return list
}

// noProducts is rows and columns whose product goes round the ends of all numbers, to just so many cells, or to few, or none.
var noProducts = func() []shape {
	const quarter = 1 << (bits.UintSize - 2)
	list := []shape{
		{quarter, 4}, {half, half}, {half + 1, half - 1}, {quarter / 4, 16}, {math.MaxInt, math.MaxInt}, {math.MaxInt, 2}, {quarter + 1, 4},
		{quarter / 2, 8}, {math.MinInt, math.MinInt}, {math.MinInt, 2}, {math.MinInt, -1}, {quarter, -4}, {half, -half}, {-1, -80}, {-24, -80}, {-127, -129}, {math.MinInt, 1},
	}
	for _, n := range []int{1, 5, 120, 1000} {
		list = append(list, shape{quarter/4 + n, 16}, shape{half/2 + n, half * 2}, shape{quarter/16 + n, 64})
	}
	return list
}()

// alike tells, by its parts alone, whether two screens are: nil and empty lists are one.
func alike(a, b api.Screen) bool {
	if a.Rows != b.Rows || a.Cols != b.Cols || a.Cursor != b.Cursor || a.Locked != b.Locked || a.Insert != b.Insert || len(a.Cells) != len(b.Cells) {
		return false
	}
	for i, c := range a.Cells {
		d := b.Cells[i]
		if c.Field != d.Field || c.Char != d.Char || c.Attr.Protected != d.Attr.Protected || c.Attr.Numeric != d.Attr.Numeric || c.Attr.Show != d.Attr.Show || c.Attr.Modified != d.Attr.Modified {
			return false
		}
	}
	return true
}

// twin is a screen like s, made without the package.
func twin(s api.Screen) api.Screen {
	s.Cells = append([]api.Cell(nil), s.Cells...)
	return s
}

// oddScreens is screens of which nothing else is right: too few and too many cells, rows and columns that don't fit, cursors and cells that aren't right.
func oddScreens() []api.Screen {
	list := []api.Screen{{}, {Cells: []api.Cell{}}, {Rows: 1, Cols: 1}, {Rows: 3, Cols: 4, Cursor: 5}, {Rows: math.MaxInt, Cols: math.MinInt, Cursor: math.MinInt, Locked: true}, {Insert: true, Cursor: -1}}
	for _, n := range []int{1, 2, 11, 13, most + 1, 40000} {
		for _, x := range []shape{{0, 0}, {3, 4}, {-1, -n}, {n, 2}, {math.MaxInt, math.MaxInt}} {
			list = append(list, api.Screen{Rows: x.rows, Cols: x.cols, Cells: make([]api.Cell, n), Cursor: n})
		}
	}
	for _, c := range wrongCells() {
		list = append(list, api.Screen{Rows: 1, Cols: 2, Cells: []api.Cell{c, c}, Cursor: math.MaxInt, Locked: true, Insert: true})
	}
	return list
}

// checkError holds an error against the number that it shall have, without a Spot; of the number 0 there shall be none.
func checkError(t *testing.T, err error, want api.Errno) {
	t.Helper()
	if want == 0 {
		if err != nil {
			t.Fatalf("the error is %v", err)
		}
		return
	}
	var spot *api.Spot
	if !errors.Is(err, want) || api.Code(err) != int(want) || errors.As(err, &spot) || api.Where(err) != -1 {
		t.Fatalf("the error is %v at %d, not %v", err, api.Where(err), want)
	}
}

// checkRight holds Right against what it shall be.
func checkRight(t *testing.T, s api.Screen, want bool) {
	t.Helper()
	if grid.Right(s) != want {
		t.Fatalf("%d by %d, %d cells, the cursor at %d: right is %t", s.Rows, s.Cols, len(s.Cells), s.Cursor, !want)
	}
}

// shares tells whether two lists share memory, up to their capacities.
func shares[T any](a, b []T) bool {
	for i := range a[:cap(a)] {
		for j := range b[:cap(b)] {
			if &a[:cap(a)][i] == &b[:cap(b)][j] {
				return true
			}
		}
	}
	return false
}

// walk is the cells from a on, up to b, told step by step: there and behind, around the end, till b comes again.
func walk(size, a, b int) []int {
	list := []int{a}
	for at := (a + 1) % size; at != b; at = (at + 1) % size {
		list = append(list, at)
	}
	return list
}

// checkSpan holds Span against the cells that it shall be, each of which it has once.
func checkSpan(t *testing.T, s api.Screen, a, b int) {
	t.Helper()
	got, want := grid.Span(s, a, b), walk(len(s.Cells), a, b)
	if !slices.Equal(got, want) {
		t.Fatalf("%d cells, from %d to %d: %d cells, not %d: %v", len(s.Cells), a, b, len(got), len(want), got[:min(9, len(got))])
	}
	seen := make([]bool, len(s.Cells))
	for _, at := range got {
		if seen[at] {
			t.Fatalf("%d cells, from %d to %d: %d comes twice", len(s.Cells), a, b, at)
		}
		seen[at] = true
	}
}
