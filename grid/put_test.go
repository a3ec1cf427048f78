package grid_test

import (
	"math"
	"slices"
	"testing"

	"shutter/api"
	"shutter/grid"
)

// checkPut holds Put of a right screen against what it shall answer: the screen with the cell, or as it was and an error; that the screen handed in stays, and that no memory is shared.
func checkPut(t *testing.T, s api.Screen, a int, c api.Cell) {
	t.Helper()
	was, want := twin(s), twin(s)
	u, err := grid.Put(s, a, c)
	switch {
	case a < 0 || a >= len(s.Cells):
		checkError(t, err, api.ErrAddr)
	case !isCell(c):
		checkError(t, err, api.ErrArg)
	default:
		checkError(t, err, 0)
		want.Cells[a] = c
	}
	if !alike(u, want) {
		t.Fatalf("%d cells, %v at %d: %v", len(s.Cells), c, a, u.Cells[:min(len(u.Cells), 12)])
	}
	checkRight(t, u, true)
	if u.Cells[0] = (api.Cell{Char: ^u.Cells[0].Char}); !alike(s, was) {
		t.Fatalf("%d cells, %v at %d: what was handed in isn't as it was", len(s.Cells), c, a)
	}
}

// P10.3: every right cell, and those that aren't, at the first, a middle and the last place, and outside, of small screens.
func TestPut(t *testing.T) {
	cells := slices.Concat(rightCells(), wrongCells())
	for _, x := range []shape{{1, 1}, {1, 2}, {2, 3}, {3, 1}, {5, 5}} {
		for _, s := range []api.Screen{blank(x), filled(x)} {
			list := append(places(len(s.Cells)), -1, len(s.Cells), math.MaxInt, math.MinInt)
			for _, c := range cells {
				for _, a := range list {
					checkPut(t, s, a, c)
				}
			}
		}
	}
}

// P10.3: at each cell, and at numbers that are none, a right cell and one that isn't.
func TestPutPlaces(t *testing.T) {
	kinds := []api.Cell{{}, {Char: 0x40}, {Char: 0x1c}, {Field: true}, {Field: true, Attr: api.Attr{Protected: true, Show: 3}}, {Char: 1}, {Char: 0xff}, {Field: true, Char: 0xc1}, {Attr: api.Attr{Modified: true}}, {Field: true, Attr: api.Attr{Show: 4}}}
	for _, x := range slices.Concat(smalls, shapes) {
		for _, s := range []api.Screen{blank(x), filled(x)} {
			list := slices.Concat(places(len(s.Cells)), []int{-1, len(s.Cells), math.MaxInt})
			if len(s.Cells) < 100 {
				list = slices.Concat(walk(len(s.Cells), 0, 0), noCells(len(s.Cells)))
			}
			for i, a := range list {
				checkPut(t, s, a, kinds[i%5])
				checkPut(t, s, a, kinds[5+i%5])
			}
		}
	}
}

// P10.3: where there is no such cell and the cell isn't right either, ErrAddr is told.
func TestPutBothWrong(t *testing.T) {
	s := filled(shape{3, 4})
	for _, c := range wrongCells() {
		for _, a := range noCells(12) {
			u, err := grid.Put(s, a, c)
			checkError(t, err, api.ErrAddr)
			if !alike(u, s) {
				t.Fatalf("%v at %d: %v", c, a, u)
			}
		}
		_, err := grid.Put(s, 11, c)
		checkError(t, err, api.ErrArg)
	}
}

// P10.3: Put leaves all but the cell, the cursor on it and Locked and Insert among it; the same cell put again changes nothing.
func TestPutLeavesTheRest(t *testing.T) {
	for n := range 4 {
		s := filled(shape{3, 4})
		s.Locked, s.Insert, s.Cursor = n&1 != 0, n&2 != 0, 5
		for a := range s.Cells {
			checkPut(t, s, a, api.Cell{Field: true, Attr: api.Attr{Numeric: true}})
			checkPut(t, s, a, api.Cell{Char: 0xc1})
			checkPut(t, s, a, s.Cells[a])
			u, err := grid.Put(s, a, s.Cells[a])
			checkError(t, err, 0)
			if !alike(u, s) {
				t.Fatalf("%v, not %v", u, s)
			}
		}
	}
}

// P10.3: cells put one by one make a screen; the last one put at a place stays.
func TestPutOneByOne(t *testing.T) {
	x := shape{6, 9}
	s, want := blank(x), filled(x)
	want.Cursor, want.Locked = 0, false
	for a, c := range want.Cells {
		for _, put := range []api.Cell{{Char: 0x5c}, c} {
			u, err := grid.Put(s, a, put)
			checkError(t, err, 0)
			s = u
		}
	}
	if !alike(s, want) {
		t.Errorf("%v, not %v", s, want)
	}
}

// P10.5: what Put answers shares no memory with the screen handed in, nor with what it answered before, beside an error either.
func TestPutMemory(t *testing.T) {
	for _, x := range []shape{{1, 1}, {2, 3}, {5, 5}} {
		room := make([]api.Cell, 2*x.rows*x.cols)
		copy(room, filled(x).Cells)
		s := filled(x)
		s.Cells = room[:len(s.Cells)] // with room behind it, where nothing may be written
		for _, a := range append(places(len(s.Cells)), -1, len(s.Cells)) {
			for _, c := range []api.Cell{{Char: 0xc1}, {Field: true}, {Char: 1}} {
				first, _ := grid.Put(s, a, c)
				second, _ := grid.Put(s, a, c)
				if shares(first.Cells, s.Cells) || shares(first.Cells, second.Cells) {
					t.Fatalf("%v at %d: one memory", c, a)
				}
				_ = append(first.Cells, api.Cell{Char: 0xc9})
				if !slices.Equal(room[:len(s.Cells)], filled(x).Cells) || slices.ContainsFunc(room[len(s.Cells):], func(c api.Cell) bool { return c != api.Cell{} }) {
					t.Fatalf("%v at %d: %v", c, a, room)
				}
			}
		}
	}
}

// P1: no call panics at screens that aren't right, or at numbers that are no cells, of which no more is promised.
func TestWrongScreens(t *testing.T) {
	list := oddScreens()
	for _, s := range append(list, filled(shape{1, 1}), filled(shape{3, 4})) {
		was := twin(s)
		for _, a := range []int{0, 1, -1, len(s.Cells) - 1, len(s.Cells), half, math.MaxInt, math.MinInt} {
			for _, b := range []int{0, 1, -1, len(s.Cells), math.MaxInt, math.MinInt, math.MinInt + 1} {
				grid.On(s, a, b)
			}
			for _, c := range []api.Cell{{}, {Char: 1}, {Field: true, Attr: api.Attr{Show: math.MinInt}}} {
				grid.Put(s, a, c)
			}
			if len(s.Cells) > 1000 {
				grid.Span(s, a, len(s.Cells))
				continue
			}
			for _, b := range []int{0, 1, -1, len(s.Cells), math.MaxInt, math.MinInt} {
				grid.Span(s, a, b)
				grid.Span(s, b, a)
			}
		}
		grid.Same(s, list[0])
		if !alike(s, was) {
			t.Fatalf("%v, not %v", s, was)
		}
	}
}
