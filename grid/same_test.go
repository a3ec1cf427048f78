package grid_test

import (
	"math"
	"testing"

	"shutter/api"
	"shutter/grid"
)

// full is a screen in which every part stands; with far it isn't right.
func full(far bool) api.Screen {
	s := api.Screen{Rows: 2, Cols: 3, Cursor: 4, Locked: true, Insert: true}
	for i := range 6 {
		s.Cells = append(s.Cells, api.Cell{Char: byte(0xc1 + i)})
	}
	attr := api.Attr{Protected: true, Numeric: true, Show: 2, Modified: true}
	s.Cells[0] = api.Cell{Field: true, Attr: attr}
	s.Cells[5] = api.Cell{Field: true, Attr: attr}
	if far {
		s.Rows, s.Cols, s.Cursor = math.MaxInt, math.MinInt, -1
		s.Cells[2] = api.Cell{Attr: api.Attr{Show: math.MinInt}, Char: 0xff}
	}
	return s
}

// changes is what makes a screen another one, in one part alone; the parts of cells at the first, a middle and the last place.
func changes() map[string]func(s *api.Screen) {
	m := map[string]func(s *api.Screen){
		"rows":       func(s *api.Screen) { s.Rows-- },
		"far rows":   func(s *api.Screen) { s.Rows -= half },
		"no rows":    func(s *api.Screen) { s.Rows = 0 },
		"cols":       func(s *api.Screen) { s.Cols++ },
		"far cols":   func(s *api.Screen) { s.Cols += half },
		"turned":     func(s *api.Screen) { s.Rows, s.Cols = s.Cols, s.Rows },
		"cursor":     func(s *api.Screen) { s.Cursor++ },
		"far cursor": func(s *api.Screen) { s.Cursor += half },
		"below":      func(s *api.Screen) { s.Cursor = -4 },
		"locked":     func(s *api.Screen) { s.Locked = false },
		"insert":     func(s *api.Screen) { s.Insert = false },
		"shorter":    func(s *api.Screen) { s.Cells = s.Cells[:5] },
		"from 1 on":  func(s *api.Screen) { s.Cells = s.Cells[1:] },
		"longer":     func(s *api.Screen) { s.Cells = append(s.Cells, api.Cell{}) },
		"no cells":   func(s *api.Screen) { s.Cells = nil },
		"two turned": func(s *api.Screen) { s.Cells[3], s.Cells[4] = s.Cells[4], s.Cells[3] },
	}
	for name, a := range map[string]int{"first": 0, "middle": 2, "last": 5} {
		m[name+" field"] = func(s *api.Screen) { s.Cells[a].Field = !s.Cells[a].Field }
		m[name+" protected"] = func(s *api.Screen) { s.Cells[a].Attr.Protected = !s.Cells[a].Attr.Protected }
		m[name+" numeric"] = func(s *api.Screen) { s.Cells[a].Attr.Numeric = !s.Cells[a].Attr.Numeric }
		m[name+" show"] = func(s *api.Screen) { s.Cells[a].Attr.Show++ }
		m[name+" far show"] = func(s *api.Screen) { s.Cells[a].Attr.Show += half }
		m[name+" modified"] = func(s *api.Screen) { s.Cells[a].Attr.Modified = !s.Cells[a].Attr.Modified }
		m[name+" char"] = func(s *api.Screen) { s.Cells[a].Char++ }
	}
	return m
}

// checkSame holds Same of two screens, in both orders of them, against what it shall be.
func checkSame(t *testing.T, name string, a, b api.Screen, want bool) {
	t.Helper()
	if grid.Same(a, b) != want || grid.Same(b, a) != want {
		t.Fatalf("%s: %t, and turned %t", name, grid.Same(a, b), grid.Same(b, a))
	}
}

// P10.3: screens that differ in one part alone are not alike; with that part changed too, they are.
func TestSameOnePart(t *testing.T) {
	for name, change := range changes() {
		for _, far := range []bool{false, true} {
			a, b := full(far), full(far)
			checkSame(t, name, a, b, true)
			change(&b)
			checkSame(t, name, a, b, false)
			change(&a)
			checkSame(t, name, a, b, true)
		}
	}
}

// P10.3: of screens that differ from one in a part each, those alone are alike that are part by part.
func TestSameTwoParts(t *testing.T) {
	for first, change := range changes() {
		for second, other := range changes() {
			a, b := full(false), full(false)
			change(&a)
			other(&b)
			checkSame(t, first+", "+second, a, b, alike(a, b))
		}
	}
}

// P10.3: whatever screens are alike part by part alone, right or not.
func TestSameWhatever(t *testing.T) {
	list := append(oddScreens(), api.Screen{Rows: 1, Cols: 1}, api.Screen{Cursor: 1}, full(false), full(true))
	for _, x := range shapes {
		list = append(list, blank(x), filled(x))
	}
	for i, a := range list {
		checkSame(t, "a twin", a, twin(a), true)
		for _, b := range list[:i] {
			checkSame(t, "two of whatever", a, b, alike(a, b))
		}
	}
}

// P10.3: of a greatest screen a difference at each end, and within, is seen.
func TestSameGreat(t *testing.T) {
	s := filled(shape{127, 129})
	for _, a := range []int{0, 1, 128, 129, 8191, most - 2, most - 1} {
		u := twin(s)
		u.Cells[a].Char ^= 1
		checkSame(t, "great", s, u, false)
		u.Cells[a].Char ^= 1
		checkSame(t, "great", s, u, true)
	}
}

// P10.3: nil and empty lists of cells are one.
func TestSameNoCells(t *testing.T) {
	room := make([]api.Cell, 3)
	for _, empty := range [][]api.Cell{nil, {}, make([]api.Cell, 0, 5), room[:0]} {
		checkSame(t, "empty", api.Screen{Rows: 1, Cells: empty}, api.Screen{Rows: 1}, true)
		checkSame(t, "empty", api.Screen{Rows: 1, Cells: empty}, api.Screen{Rows: 1, Cells: []api.Cell{}}, true)
		checkSame(t, "empty", api.Screen{Rows: 1, Cells: empty}, api.Screen{Rows: 2, Cells: empty}, false)
		checkSame(t, "empty", api.Screen{Cells: empty}, api.Screen{Cells: room[:1]}, false)
	}
}

// P10.3: the capacity of the cells doesn't matter, nor does what stands behind them.
func TestSameCapacity(t *testing.T) {
	a, b := full(false), full(false)
	b.Cells = append(b.Cells, api.Cell{Char: 0xc9}, api.Cell{Field: true})[:6]
	checkSame(t, "room", a, b, true)
	a.Cells = a.Cells[:3:3]
	checkSame(t, "room", a, b, false)
	b.Cells = b.Cells[:3]
	checkSame(t, "room", a, b, true)
}

// P10.3, P10.5: Copy of whatever screen is one like it, of its own memory.
func TestCopy(t *testing.T) {
	list := append(oddScreens(), full(false), full(true))
	for _, change := range changes() {
		s := full(false)
		change(&s)
		list = append(list, s)
	}
	for _, x := range shapes {
		list = append(list, blank(x), filled(x))
	}
	for _, s := range list {
		was, u := twin(s), grid.Copy(s)
		if !alike(u, was) || !grid.Same(u, s) || grid.Right(u) != grid.Right(s) {
			t.Fatalf("%d by %d, %d cells: %d by %d, %d cells", s.Rows, s.Cols, len(s.Cells), u.Rows, u.Cols, len(u.Cells))
		}
		for i := range u.Cells {
			u.Cells[i] = api.Cell{Field: !u.Cells[i].Field, Char: ^u.Cells[i].Char}
		}
		_ = append(u.Cells, api.Cell{Char: 0xc9})
		if !alike(s, was) {
			t.Fatalf("%d by %d, %d cells: what was handed in isn't as it was", s.Rows, s.Cols, len(s.Cells))
		}
	}
}

// P10.5: what is done to a screen isn't seen on its copies, and its room isn't theirs.
func TestCopyMemory(t *testing.T) {
	for _, n := range []int{0, 1, 6, 80} {
		room := make([]api.Cell, n+5)
		s := api.Screen{Rows: 1, Cols: n, Cells: room[:n], Insert: true}
		first, second := grid.Copy(s), grid.Copy(s)
		if shares(first.Cells, s.Cells) || shares(first.Cells, second.Cells) {
			t.Fatalf("%d cells: one memory", n)
		}
		_ = append(first.Cells, api.Cell{Char: 0xc9})
		for i := range room {
			if room[i] != (api.Cell{}) {
				t.Fatalf("%d cells: %v at %d", n, room[i], i)
			}
			room[i] = api.Cell{Char: 0xc1}
		}
		want := api.Screen{Rows: 1, Cols: n, Cells: make([]api.Cell, n), Insert: true}
		if !alike(first, want) || !alike(second, want) {
			t.Fatalf("%d cells: %v and %v", n, first, second)
		}
	}
}

// P10.5: Same changes neither screen.
func TestSameHandedInStays(t *testing.T) {
	for _, far := range []bool{false, true} {
		a, b := full(far), full(!far)
		grid.Same(a, b)
		grid.Same(a, a)
		if !alike(a, full(far)) || !alike(b, full(!far)) {
			t.Errorf("%v and %v", a, b)
		}
	}
}
