package field_test

import (
	"slices"
	"testing"

	"shutter/api"
	"shutter/field"
)

// P11.1: each call of each cell of every small screen, against the document's words.
func TestEveryScreen(t *testing.T) {
	everyScreen(func(s api.Screen) { checkScreen(t, s, every(s)...) })
}

// P11.1: a screen is formatted, if there is a field, wherever it begins and of whatever attribute.
func TestFormatted(t *testing.T) {
	for _, picture := range []string{".", "a", "..........", "abcdeabcde", "......a..."} {
		if field.Formatted(drawn(picture)) {
			t.Errorf("%s is formatted", picture)
		}
	}
	for _, picture := range []string{"o", "p", "oo", "ppppp", "onmpq", "o....", "..q..", "....m", "o...o", "aaaap"} {
		if !field.Formatted(drawn(picture)) {
			t.Errorf("%s isn't formatted", picture)
		}
	}
	for _, attr := range slices.Concat(attrs(false), attrs(true)) {
		for at := range 12 {
			s := filled(shape{3, 4}, "a.")
			s.Cells[at] = api.Cell{Field: true, Attr: attr}
			if !field.Formatted(s) {
				t.Errorf("%v at %d: not formatted", attr, at)
			}
		}
	}
}

// P11.1: where fields begin, written out: none, at the first, a middle and the last cell, side by side, and all.
func TestBeginsWrittenOut(t *testing.T) {
	for _, x := range []struct {
		picture string
		want    []int
	}{
		{".", nil}, {"ab.cd", nil}, {"o", []int{0}}, {"q", []int{0}},
		{"o....", []int{0}}, {"..p..", []int{2}}, {"....m", []int{4}}, {"n...p", []int{0, 4}}, {"o.p.q", []int{0, 2, 4}},
		{"oo...", []int{0, 1}}, {".pq..", []int{1, 2}}, {"...no", []int{3, 4}}, {"p..oo", []int{0, 3, 4}}, {"onmpq", []int{0, 1, 2, 3, 4}},
	} {
		if got := field.Begins(drawn(x.picture)); !slices.Equal(got, x.want) {
			t.Errorf("%s: %v, not %v", x.picture, got, x.want)
		}
	}
}

// P11.1: where the field of each cell begins, written out: of a cell where one begins, of those behind it, of those ahead of the first field, and of no field.
func TestBeginWrittenOut(t *testing.T) {
	for _, x := range []struct {
		picture string
		want    []int
	}{
		{"a", []int{-1}}, {"..a", []int{-1, -1, -1}}, {"p", []int{0}}, {"o.", []int{0, 0}}, {".o", []int{1, 1}},
		{"o...", []int{0, 0, 0, 0}}, {"..q.", []int{2, 2, 2, 2}}, {"...p", []int{3, 3, 3, 3}},
		{"..o.p..", []int{4, 4, 2, 2, 4, 4, 4}}, {"o..p..m", []int{0, 0, 0, 3, 3, 3, 6}}, {".op.q.", []int{4, 1, 2, 2, 4, 4}}, {"opq", []int{0, 1, 2}},
	} {
		for a, want := range x.want {
			if got := field.Begin(drawn(x.picture), a); got != want {
				t.Errorf("%s at %d: %d, not %d", x.picture, a, got, want)
			}
		}
	}
}

// P11.1: the cells of fields, written out: in the middle, around the end, without cells, of the one field, and of no field.
func TestCellsWrittenOut(t *testing.T) {
	for _, x := range []struct {
		picture string
		cells   []int
		want    []int
	}{
		{"a", []int{0}, []int{0}}, {"..a..", []int{0, 2, 4}, []int{0, 1, 2, 3, 4}},
		{"o...p.", []int{0, 1, 2, 3}, []int{1, 2, 3}}, {"o...p.", []int{4, 5}, []int{5}},
		{"..o.p..", []int{4, 5, 6, 0, 1}, []int{5, 6, 0, 1}}, {"..o.p..", []int{2, 3}, []int{3}}, {".....q", []int{0, 2, 4, 5}, []int{0, 1, 2, 3, 4}},
		{".op..", []int{1}, nil}, {".op..", []int{2, 3, 4, 0}, []int{3, 4, 0}}, {"o..p", []int{3}, nil}, {"opq", []int{0}, nil}, {"opq", []int{1}, nil}, {"opq", []int{2}, nil},
		{"o", []int{0}, nil}, {"p", []int{0}, nil}, {"o.", []int{0, 1}, []int{1}}, {".p", []int{0, 1}, []int{0}}, {"..m..", []int{0, 1, 2, 3, 4}, []int{3, 4, 0, 1}},
	} {
		for _, a := range x.cells {
			if got := field.Cells(drawn(x.picture), a); !slices.Equal(got, x.want) {
				t.Errorf("%s at %d: %v, not %v", x.picture, a, got, x.want)
			}
		}
	}
}

// P11.1: each attribute, protected or not, of the cell where its field begins, of the one behind it, and of one around the end; such a cell is open, if the attribute isn't Protected.
func TestOfEachAttribute(t *testing.T) {
	for _, attr := range slices.Concat(attrs(false), attrs(true)) {
		other := api.Attr{Protected: !attr.Protected, Show: 1}
		s := filled(shape{2, 4}, "a.")
		s.Cells[5] = api.Cell{Field: true, Attr: attr}
		s.Cells[2] = api.Cell{Field: true, Attr: other}
		for a, want := range []api.Attr{attr, attr, other, other, other, attr, attr, attr} {
			if got := field.Of(s, a); got != want {
				t.Errorf("at %d: %v, not %v", a, got, want)
			}
			if got, want := field.Open(s, a), !want.Protected && a != 2 && a != 5; got != want {
				t.Errorf("%v: open at %d is %t", attr, a, got)
			}
		}
	}
}

// P11.1: which cells are open, written out (x): of open and protected fields, side by side, around the end, and of no field.
func TestOpenWrittenOut(t *testing.T) {
	for _, x := range [][2]string{
		{"a", "x"}, {"..a.", "xxxx"}, {"o", "-"}, {"p", "-"}, {"o.", "-x"}, {".q", "--"}, {"onmpq", "-----"},
		{"o..p..", "-xx---"}, {"..p.n.a", "xx---xx"}, {"..n.p.a", "---x---"}, {".op.m", "x----"}, {"p.o.q.n.", "---x---x"},
	} {
		for a := range len(x[0]) {
			if got := field.Open(drawn(x[0]), a); got != (x[1][a] == 'x') {
				t.Errorf("%s: open at %d is %t", x[0], a, got)
			}
		}
	}
}

// P11.1: of a screen that isn't formatted: -1, all cells, Attr{}, and each cell is open.
func TestNoFields(t *testing.T) {
	for _, x := range append([]shape{{1, 1}, {1, 7}, {7, 1}, {3, 4}, {24, 80}}, great...) {
		s := filled(x, ".abc.")
		last := len(s.Cells) - 1
		checkScreen(t, s, 0, last/2, last)
		for _, a := range []int{0, last / 2, last} {
			if field.Begin(s, a) != -1 || field.Of(s, a) != (api.Attr{}) || !field.Open(s, a) || field.Next(s, a) != -1 || field.Prev(s, a) != -1 {
				t.Errorf("%d by %d, at %d", x.rows, x.cols, a)
			}
			if l := field.Cells(s, a); len(l) != last+1 || l[0] != 0 || l[last] != last {
				t.Errorf("%d by %d, at %d: %d cells, the first %d", x.rows, x.cols, a, len(l), l[0])
			}
		}
	}
}

// P11.1, P11.2: screens of as many cells as there may be: one field, fields side by side, nothing but fields, and many.
func TestGreatScreens(t *testing.T) {
	for _, x := range great {
		list := []int{0, 1, 2, 77, most / 2, most/2 + 1, most/2 + 2, most - 3, most - 2, most - 1}
		for _, kind := range []byte("oq") {
			for _, at := range []int{0, most / 2, most - 1} {
				checkScreen(t, withFields(x, kind, at), list...)
			}
			checkScreen(t, withFields(x, kind, 0, most-1), list...)
			checkScreen(t, withFields(x, kind, 1, most/2, most/2+1), list...)
		}
		for _, picture := range []string{"o", "p", "onmpq", "o.", "p.a..n..q....mo..", "..........n.............p........"} {
			checkScreen(t, filled(x, picture), list...)
		}
	}
}

// P11.1: no call hangs on rows and columns, on the cursor, or on whether the screen is locked, or Insert is set.
func TestFieldsOfAlikeScreens(t *testing.T) {
	for _, picture := range []string{".", "o.a.p..no.q.", "..m.", "o", "p.....q....."} {
		for n := range 4 {
			for _, x := range []shape{{1, 12}, {12, 1}, {3, 4}, {2, 6}} {
				s := filled(x, picture)
				s.Cursor, s.Locked, s.Insert = 11-n, n&1 != 0, n&2 != 0
				checkScreen(t, s, every(s)...)
			}
		}
	}
}
