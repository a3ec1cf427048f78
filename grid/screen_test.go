package grid_test

import (
	"math"
	"math/big"
	"slices"
	"testing"

	"shutter/api"
	"shutter/grid"
)

// checkNew holds New against the document's words, the product taken without an end of numbers.
func checkNew(t *testing.T, rows, cols int) {
	t.Helper()
	s, err := grid.New(rows, cols)
	size := new(big.Int).Mul(big.NewInt(int64(rows)), big.NewInt(int64(cols)))
	if rows < 1 || cols < 1 || size.Cmp(big.NewInt(most)) > 0 {
		checkError(t, err, api.ErrArg)
		if !alike(s, api.Screen{}) {
			t.Fatalf("%d by %d: %d cells beside %v", rows, cols, len(s.Cells), err)
		}
		return
	}
	checkError(t, err, 0)
	if !alike(s, blank(shape{rows, cols})) || grid.Size(s) != rows*cols {
		t.Fatalf("%d by %d: %d by %d, %d cells, the cursor at %d, %t, %t", rows, cols, s.Rows, s.Cols, len(s.Cells), s.Cursor, s.Locked, s.Insert)
	}
	checkRight(t, s, true)
}

// P10.1: New of rows and columns at every edge, each with each: the screen, or ErrArg.
func TestNew(t *testing.T) {
	for _, x := range slices.Concat(shapes, smalls, noProducts) {
		checkNew(t, x.rows, x.cols)
		checkNew(t, x.cols, x.rows)
	}
	edges := []int{-1, 0, 1, 2, 3, 24, 43, 80, 126, 127, 128, 129, 132, 5460, 5461, 5462, 8191, 8192, 16382, 16383, 16384, 65535, 65536, 65537, -127, -16383, half, half + 1, -half, math.MaxInt32, math.MinInt32, math.MinInt, math.MinInt + 1, math.MaxInt - 1, math.MaxInt}
	for _, rows := range edges {
		for _, cols := range edges {
			checkNew(t, rows, cols)
		}
	}
}

// P10.1: of each number of rows New takes as many columns as there is room for, and not one more.
func TestNewMost(t *testing.T) {
	for rows := 1; rows <= most+1; rows += 1 + rows/9 {
		checkNew(t, rows, most/rows)
		checkNew(t, rows, most/rows+1)
		checkNew(t, most/rows+1, rows)
	}
}

// P10.1: a right screen's rows and columns have as many cells as it has, of whatever mix, and no others.
func TestRightCount(t *testing.T) {
	for _, x := range shapes {
		s := blank(x)
		checkRight(t, s, true)
		checkRight(t, filled(x), true)
		for _, n := range []int{0, 1, len(s.Cells) - 1, len(s.Cells) + 1, 2 * len(s.Cells), most + 1} {
			u := s
			u.Cells = make([]api.Cell, n)
			checkRight(t, u, n == len(s.Cells))
		}
		u := s
		u.Cells = nil
		checkRight(t, u, false)
	}
	checkRight(t, api.Screen{}, false)
	for rows := -13; rows <= 13; rows++ {
		for cols := -13; cols <= 13; cols++ {
			s := api.Screen{Rows: rows, Cols: cols, Cells: make([]api.Cell, 12)}
			checkRight(t, s, rows > 0 && rows*cols == 12)
		}
	}
}

// P10.1: of more than MaxCells cells, or of rows and columns whose product goes round, no screen is right.
func TestRightTooMany(t *testing.T) {
	for _, x := range []shape{{1, most + 1}, {most + 1, 1}, {128, 128}, {2, 8192}, {8192, 2}, {200, 200}} {
		checkRight(t, blank(x), false)
	}
	for _, x := range noProducts {
		if n := x.rows * x.cols; n >= 0 && n < 1<<20 {
			checkRight(t, blank(x), false)
		}
		for _, n := range []int{0, 1, 80, 1920, most} {
			checkRight(t, api.Screen{Rows: x.rows, Cols: x.cols, Cells: make([]api.Cell, n)}, false)
		}
	}
}

// P10.1: the cursor is a cell.
func TestRightCursor(t *testing.T) {
	for _, x := range shapes {
		s := filled(x)
		for _, a := range places(len(s.Cells)) {
			s.Cursor = a
			checkRight(t, s, true)
		}
		for _, a := range noCells(len(s.Cells)) {
			s.Cursor = a
			checkRight(t, s, false)
		}
	}
	s := filled(shape{3, 4})
	for a := -40; a < 40; a++ {
		s.Cursor = a
		checkRight(t, s, a >= 0 && a < 12)
	}
}

// P10.1: each cell that is right may stand at the first, a middle and the last place, each other one nowhere.
func TestRightCells(t *testing.T) {
	for _, x := range []shape{{1, 1}, {2, 3}, {5, 5}, {1, 80}} {
		for _, s := range []api.Screen{blank(x), filled(x)} {
			for _, a := range places(len(s.Cells)) {
				for _, c := range slices.Concat(rightCells(), wrongCells()) {
					u := twin(s)
					u.Cells[a] = c
					if grid.Right(u) != isCell(c) {
						t.Fatalf("%v at %d of %d: right is %t", c, a, len(s.Cells), !isCell(c))
					}
				}
			}
		}
	}
	s := blank(shape{127, 129})
	for _, a := range []int{0, 128, 129, 8000, most - 1} {
		u := twin(s)
		u.Cells[a].Char = 1
		checkRight(t, u, false)
	}
}

// P10.1: a screen may be right whether it is locked, and whether Insert is set.
func TestRightStates(t *testing.T) {
	for n := range 4 {
		s := filled(shape{3, 4})
		s.Locked, s.Insert = n&1 != 0, n&2 != 0
		checkRight(t, s, true)
		s.Cells = s.Cells[1:]
		checkRight(t, s, false)
	}
}

// P10.1: Size is as many as there are cells, whatever else the screen tells.
func TestSize(t *testing.T) {
	for _, n := range []int{0, 1, 2, 79, 1920, most, most + 1, 65536, 100000} {
		cells := make([]api.Cell, n, n+7)
		for _, s := range []api.Screen{{}, {Rows: 3, Cols: 4}, {Rows: 1, Cols: n, Cursor: -1}, {Rows: math.MaxInt, Cols: math.MinInt, Locked: true, Insert: true}} {
			s.Cells = cells
			if grid.Size(s) != n {
				t.Errorf("%d by %d: %d, not %d", s.Rows, s.Cols, grid.Size(s), n)
			}
		}
	}
	if n := grid.Size(api.Screen{Rows: 24, Cols: 80}); n != 0 {
		t.Errorf("without cells: %d", n)
	}
	for _, s := range oddScreens() {
		if grid.Size(s) != len(s.Cells) {
			t.Errorf("%d, not %d", grid.Size(s), len(s.Cells))
		}
	}
}

// P10.1, P10.5: what New answers is new each time: what is done to one screen isn't seen on the next.
func TestNewIsNew(t *testing.T) {
	first, _ := grid.New(3, 4)
	second, _ := grid.New(3, 4)
	for i := range first.Cells {
		first.Cells[i] = api.Cell{Char: 0xc1}
	}
	first.Cells = append(first.Cells, api.Cell{Char: 0xc2})
	if shares(first.Cells, second.Cells) || !alike(second, blank(shape{3, 4})) {
		t.Errorf("%v", second)
	}
	checkNew(t, 3, 4)
}

// P10.5: Right and Size change nothing of the screen.
func TestRightHandedInStays(t *testing.T) {
	for _, s := range append(oddScreens(), filled(shape{3, 4}), filled(shape{24, 80})) {
		was := twin(s)
		grid.Right(s)
		grid.Size(s)
		if !alike(s, was) {
			t.Fatalf("%v, not %v", s, was)
		}
	}
}
