package move_test

import (
	"slices"
	"testing"

	"shutter/api"
)

// P15.1: Tab, Back and Home from each cell, written out, with Insert and without.
func TestLeaps(t *testing.T) {
	for _, x := range []struct {
		picture   string
		tab, back []int
		home      int
	}{
		// one open field with cells: from within it, from where it begins, from other fields, and around the end
		{"o.", []int{1, 1}, []int{1, 1}, 1}, {".o", []int{0, 0}, []int{0, 0}, 0}, {"oab", []int{1, 1, 1}, []int{1, 1, 1}, 1}, {"..n..", []int{3, 3, 3, 3, 3}, []int{3, 3, 3, 3, 3}, 3}, {"a/b/O", []int{0, 0, 0}, []int{0, 0, 0}, 0},
		{"p.o..q", []int{3, 3, 3, 3, 3, 3}, []int{3, 3, 3, 3, 3, 3}, 3}, {"o.p", []int{1, 1, 1}, []int{1, 1, 1}, 1}, {"oo.", []int{2, 2, 2}, []int{2, 2, 2}, 2}, {".no", []int{0, 0, 0}, []int{0, 0, 0}, 0},
		{"p.o/.nq/onp", []int{3, 3, 3, 3, 3, 3, 3, 3, 3}, []int{3, 3, 3, 3, 3, 3, 3, 3, 3}, 3},
		// two: from the first cell of one Back leads to the other, from the cells behind it to that first one
		{"o..n..", []int{4, 4, 4, 1, 1, 1}, []int{4, 4, 1, 1, 1, 4}, 1}, {"o./n.", []int{3, 3, 1, 1}, []int{3, 3, 1, 1}, 1}, {".o.n", []int{2, 0, 0, 2}, []int{2, 0, 0, 2}, 2},
		{"..o..n.", []int{3, 3, 6, 6, 6, 3, 3}, []int{6, 6, 6, 6, 3, 3, 3}, 3}, {".p.O..N", []int{4, 4, 4, 0, 0, 0, 4}, []int{4, 0, 0, 0, 0, 4, 4}, 4}, {"o.p/n.q", []int{4, 4, 4, 1, 1, 1}, []int{4, 4, 1, 1, 1, 4}, 1},
		{".a.p/.o.q/..n.", []int{6, 6, 6, 6, 6, 11, 11, 11, 11, 11, 6, 6}, []int{11, 11, 11, 11, 11, 11, 11, 6, 6, 6, 6, 6}, 6},
		// with protected fields, and open ones without cells, among them
		{"..n..p.oo.", []int{3, 3, 9, 9, 9, 9, 9, 9, 3, 3}, []int{9, 9, 9, 9, 3, 3, 3, 3, 3, 3}, 3}, {"q.o../on.p.", []int{3, 3, 7, 7, 7, 7, 3, 3, 3, 3}, []int{7, 7, 7, 7, 3, 3, 3, 3, 7, 7}, 3},
		// three
		{"o.n.o.", []int{3, 3, 5, 5, 1, 1}, []int{5, 5, 1, 1, 3, 3}, 1}, {"o./n./o.", []int{3, 3, 5, 5, 1, 1}, []int{5, 5, 1, 1, 3, 3}, 1},
	} {
		for cursor, tab := range x.tab {
			s := flagged(drawn(x.picture, cursor), cursor&2)
			checkMove(t, s, api.KeyTab, tab)
			checkMove(t, s, api.KeyBack, x.back[cursor])
			checkMove(t, s, api.KeyHome, x.home)
		}
	}
}

// P15.1: Tab, Back and Home lead to 0, where there is no open field with cells, be that cell open or not; so does Line, where no cell is open.
func TestNoSuchField(t *testing.T) {
	for _, picture := range []string{"a", ".", "abc", "a/b/.", "abc/.../d.e", "o", "Q", "on", "o/O/n", "pa.", "..q", "p.q.", "p/./Q/b", "op.", ".po", "op.n", "q.on/oqab", "ab/.Q/c.", "..p/..."} {
		formatted := slices.ContainsFunc(drawn(picture, 0).Cells, func(c api.Cell) bool { return c.Field })
		for cursor := range drawn(picture, 0).Cells {
			for _, kind := range leaps {
				if kind != api.KeyLine || formatted { // else each cell is open
					checkMove(t, drawn(picture, cursor), kind, 0)
				}
			}
		}
	}
}

// P15.1: Line from each cell of each row, written out: to the first cell of the next row, to others of that row, of those behind it, and of the cursor's own.
func TestLine(t *testing.T) {
	for _, x := range []struct {
		picture string
		rows    []int
	}{
		// not formatted
		{"a", []int{0}}, {"abc", []int{0}}, {"a/b/.", []int{1, 2, 0}}, {"abc/.../d.e", []int{3, 6, 0}},
		// one row
		{"oab", []int{1}}, {".o.", []int{0}}, {"p.o.", []int{3}}, {"ab.o", []int{0}}, {"a.qo.", []int{0}}, {".q.oo.", []int{0}}, {".po.", []int{0}}, {"qpoo.", []int{4}},
		// one column
		{"o/./n", []int{1, 1, 1}}, {"./p/././o", []int{0, 0, 0, 0, 0}}, {"o/././.", []int{1, 2, 3, 1}}, {"p/./o/.", []int{3, 3, 3, 3}},
		// to the first cell of the next row, within a field, and around the end
		{"ao./.../p..", []int{3, 2, 2}}, {".o./.../...", []int{3, 6, 0}}, {".a.p/.o.q/..n.", []int{6, 11, 0}},
		// behind a field's beginning
		{"p../o.p/n..", []int{4, 7, 4}}, {"p../.o./.n.", []int{5, 6, 5}}, {"p../oo./oop", []int{5, 5, 5}},
		// to a row behind the next one
		{".o../p.../..n.", []int{11, 11, 0}}, {"p../p../o..", []int{7, 7, 7}}, {"o./p./p./n.", []int{7, 7, 7, 1}},
		// to the same row
		{"pao./p..p/....", []int{3, 3, 3}}, {"p.../.o.p/....", []int{6, 6, 6}}, {"o../p../p..", []int{1, 1, 1}}, {"p.o/.p./p..", []int{3, 3, 3}}, {"p.o/p../p..", []int{0, 0, 0}}, {".p./.../..o", []int{0, 0, 0}},
	} {
		for cursor := range drawn(x.picture, 0).Cells {
			s := flagged(drawn(x.picture, cursor), cursor&2)
			checkMove(t, s, api.KeyLine, x.rows[cursor/s.Cols])
		}
	}
}

// P15.1: to a field of each attribute lead Tab, Back, Home and Line, if it isn't Protected.
func TestLeapsToEachAttribute(t *testing.T) {
	for _, a := range attrs() {
		for cursor := range 8 {
			s := drawn("p./../p./..", cursor)
			s.Cells[2] = api.Cell{Field: true, Attr: a}
			to := 3
			if a.Protected {
				to = 0
			}
			for _, kind := range leaps {
				checkMove(t, s, kind, to)
			}
		}
	}
}

// P15.2: behind Tab, Back, Home and Line the cursor is in an open cell, if a formatted screen has an open field with cells; behind the first three it is that field's first one.
func TestLeapsToOpenCells(t *testing.T) {
	count := 0
	everyDesk(func(s api.Screen) {
		begins := roomy(s)
		if len(begins) == 0 {
			return
		}
		count++
		for _, kind := range leaps {
			to := moved(t, s, kind).Cursor
			first := slices.Contains(begins, (to+len(s.Cells)-1)%len(s.Cells))
			if !isOpen(s, to) || kind != api.KeyLine && !first {
				t.Fatalf("%v, %d: at %d", s, kind, to)
			}
		}
	})
	if count == 0 {
		t.Error("no such screen")
	}
}

// P15.1: Tab goes through all open fields that have cells, and comes back; from there Back goes the same way back; Home leads to the first one.
func TestLeapsAllAround(t *testing.T) {
	for _, x := range []struct {
		picture string
		first   []int
		home    int
	}{
		{"o.n.p.o.", []int{1, 3, 7}, 1}, {"..o/.n./p.o", []int{0, 3, 5}, 3}, {"p.on./.q.O./o.N.q", []int{4, 9, 11, 13}, 4}, {"oo./pn.", []int{2, 5}, 2},
	} {
		s := drawn(x.picture, 0)
		for i, at := range x.first {
			s.Cursor = at
			to, last := x.first[(i+1)%len(x.first)], x.first[(i+len(x.first)-1)%len(x.first)]
			checkMove(t, s, api.KeyTab, to)
			checkMove(t, s, api.KeyBack, last)
			checkMove(t, s, api.KeyHome, x.home)
		}
	}
}

// P15.1: on screens of the greatest size: of many fields, of one, of none, of none that is open, and of one that is far off.
func TestLeapsOnGreatScreens(t *testing.T) {
	for _, x := range great {
		last := x.rows*x.cols - 1
		for _, picture := range []string{".", "p", "o", "oa.pb", "q.on", "p........"} {
			for _, begin := range []int{none, 0, last / 2, last - 1, last} {
				s := filled(x, picture)
				if begin != none {
					s.Cells[begin], s.Cells[(begin+1)%(last+1)] = cellOf('o'), cellOf('.')
				}
				for _, s.Cursor = range []int{0, 1, last / 2, last/2 + 1, last - 1, last} {
					for _, kind := range []int{api.KeyTab, api.KeyBack, api.KeyHome} {
						checkMove(t, s, kind, goal(s, kind))
					}
				}
			}
		}
	}
}

// P15.1: Line on screens of the greatest size, with one open cell, at their beginning, in their midst and at their end; and with none.
func TestLineOnGreatScreens(t *testing.T) {
	for _, x := range great {
		last := x.rows*x.cols - 1
		for _, at := range []int{none, 1, 2, last / 2, last - 1, last} {
			s, to := filled(x, "."), 0
			s.Cells[0] = cellOf('p')
			if at != none {
				to = at
				s.Cells[at-1] = cellOf('o')
				s.Cells[(at+1)%(last+1)] = cellOf('p')
			}
			for _, s.Cursor = range []int{0, 1, last / 3, last / 2, last - 1, last} {
				checkMove(t, s, api.KeyLine, to)
			}
		}
	}
}
