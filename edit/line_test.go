package edit_test

import (
	"slices"
	"testing"

	"shutter/api"
	"shutter/edit"
	"shutter/grid"
)

// P14.1: Digit of each byte.
func TestDigit(t *testing.T) {
	count := 0
	for n := range 256 {
		if edit.Digit(byte(n)) != isDigit(byte(n)) {
			t.Errorf("%02x: %t", n, edit.Digit(byte(n)))
		}
		if edit.Digit(byte(n)) {
			count++
		}
	}
	if count != 12 {
		t.Errorf("%d digits", count)
	}
}

// checkLine holds Line of a cell against this list.
func checkLine(t *testing.T, s api.Screen, a int, want []int) {
	t.Helper()
	if got := edit.Line(s, a); !slices.Equal(got, want) {
		t.Fatalf("%v: the line of %d is %v, not %v", brief(s), a, got, want)
	}
}

// P14.1: Line of each cell, written out, wherever the cursor is, Locked or not, with Insert or without.
func TestLine(t *testing.T) {
	for _, x := range []struct {
		picture string
		lines   [][]int
	}{
		// not formatted: up to the screen's end, not around it
		{"a", [][]int{{0}}}, {"a.b", [][]int{{0, 1, 2}, {1, 2}, {2}}},
		// one field: around the end, too
		{"oa.", [][]int{nil, {1, 2}, {2}}}, {"a.N", [][]int{{0, 1}, {1}, nil}}, {"aNb.", [][]int{{0}, nil, {2, 3, 0}, {3, 0}}},
		{"pa.", [][]int{nil, nil, nil}}, {"a.Q", [][]int{nil, nil, nil}}, {"O", [][]int{nil}}, {"p", [][]int{nil}},
		// several
		{"oa.p.bn1", [][]int{nil, {1, 2}, {2}, nil, nil, nil, nil, {7}}}, {"abpcoa.", [][]int{{0, 1}, {1}, nil, nil, nil, {5, 6, 0, 1}, {6, 0, 1}}},
		{".pa.o", [][]int{{0}, nil, nil, nil, nil}}, {".na.q", [][]int{nil, nil, {2, 3}, {3}, nil}},
		// without cells
		{"oo.", [][]int{nil, nil, {2}}}, {"no", [][]int{nil, nil}}, {".oqn", [][]int{{0}, nil, nil, nil}}, {"oq.", [][]int{nil, nil, nil}},
	} {
		for a, want := range x.lines {
			for cursor := range x.picture {
				for n := range 4 {
					checkLine(t, flagged(drawn(x.picture, cursor), n), a, want)
				}
			}
		}
	}
}

// P14.1: Line of each cell of every small screen, and of screens of many kinds, against the document's words.
func TestLineOfEveryScreen(t *testing.T) {
	everyScreen(func(s api.Screen) {
		for a := range s.Cells {
			checkLine(t, s, a, lineOf(s, a))
		}
	})
	for n, picture := range pictures {
		for _, x := range []shape{{1, len(picture)}, {len(picture), 1}, {3, 7}, {5, 4}} {
			s := flagged(filled(x, picture), n%4)
			for a := range s.Cells {
				checkLine(t, s, a, lineOf(s, a))
			}
		}
	}
}

// P14.1: Line of the first, a middle and the last cell of great screens, of many fields, of one, and of none.
func TestLineOfGreatScreens(t *testing.T) {
	for _, x := range great {
		last := x.rows*x.cols - 1
		for _, picture := range []string{"a", ".", "oa.b", "qa.nb"} {
			for _, begin := range []int{none, 0, 1, last / 2, last} {
				s := filled(x, picture)
				if begin != none {
					s.Cells[begin] = cellOf('o')
				}
				for _, a := range []int{0, 1, last/2 - 1, last / 2, last - 1, last} {
					checkLine(t, s, a, lineOf(s, a))
				}
			}
		}
	}
}

// P14.1: a cell in a field of each attribute has a line, if that isn't Protected; where the field begins there is none.
func TestLineOfEachAttribute(t *testing.T) {
	for _, a := range attrs() {
		s := drawn("a.b", 0)
		s.Cells[1] = api.Cell{Field: true, Attr: a}
		around, single := []int{2, 0}, []int{0}
		if a.Protected {
			around, single = nil, nil
		}
		checkLine(t, s, 2, around)
		checkLine(t, s, 0, single)
		checkLine(t, s, 1, nil)
	}
}

// checkModify holds Modify of a cell against this screen.
func checkModify(t *testing.T, s api.Screen, a int, want api.Screen) {
	t.Helper()
	if got := edit.Modify(s, a); !grid.Same(got, want) {
		t.Fatalf("%v: Modify of %d is %v, not %v", brief(s), a, brief(got), brief(want))
	}
}

// P14.1: Modify of each cell, written out: the field that the cell lies in or begins, open or protected; nothing else changes, and without fields nothing at all.
func TestModify(t *testing.T) {
	for _, x := range []struct {
		picture string
		wants   []string
	}{
		{"a", []string{"a"}}, {"a.1", []string{"a.1", "a.1", "a.1"}},
		{"o", []string{"O"}}, {"N", []string{"N"}}, {"p", []string{"P"}}, {"q", []string{"Q"}},
		{"oa.", []string{"Oa.", "Oa.", "Oa."}}, {"a.q", []string{"a.Q", "a.Q", "a.Q"}}, {"apb", []string{"aPb", "aPb", "aPb"}}, {"aPb", []string{"aPb", "aPb", "aPb"}},
		{"oap.n", []string{"Oap.n", "Oap.n", "oaP.n", "oaP.n", "oap.N"}}, {"1oaqN", []string{"1oaqN", "1OaqN", "1OaqN", "1oaQN", "1oaqN"}}, {"aopnb", []string{"aopNb", "aOpnb", "aoPnb", "aopNb", "aopNb"}},
	} {
		for a, want := range x.wants {
			for cursor := range x.picture {
				for n := range 4 {
					checkModify(t, flagged(drawn(x.picture, cursor), n), a, flagged(drawn(want, cursor), n))
				}
			}
		}
	}
}

// P14.1, P14.3: Modify of each cell of every small screen, and of screens of many kinds and sizes; they stay right.
func TestModifyOfEveryScreen(t *testing.T) {
	check := func(s api.Screen, a int) {
		t.Helper()
		checkModify(t, s, a, modified(s, a))
		if !grid.Right(edit.Modify(s, a)) {
			t.Fatalf("%v: not right behind Modify of %d", brief(s), a)
		}
	}
	everyScreen(func(s api.Screen) {
		for a := range s.Cells {
			s.Cursor = len(s.Cells) - 1 - a
			check(flagged(s, a), a)
		}
	})
	for n, picture := range pictures {
		s := flagged(filled(shape{4, 7}, picture), n%4)
		for a := range s.Cells {
			check(s, a)
		}
		for _, x := range great {
			s := filled(x, picture)
			for _, a := range []int{0, len(s.Cells) / 2, len(s.Cells) - 1} {
				check(s, a)
			}
		}
	}
}

// P14.1: Modify of a field of each attribute.
func TestModifyOfEachAttribute(t *testing.T) {
	for _, a := range attrs() {
		s, want := drawn("a.bp", 0), drawn("a.bp", 0)
		s.Cells[1] = api.Cell{Field: true, Attr: a}
		a.Modified = true
		want.Cells[1] = api.Cell{Field: true, Attr: a}
		checkModify(t, s, 1, want)
		checkModify(t, s, 2, want)
	}
}
