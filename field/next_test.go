package field_test

import (
	"testing"

	"shutter/api"
	"shutter/field"
)

// P11.2: Next and Prev from each cell, written out.
func TestStepsWrittenOut(t *testing.T) {
	for _, x := range []struct {
		picture    string
		next, prev []int
	}{
		// no open field, or none that has cells
		{".", []int{-1}, []int{-1}}, {"abc", []int{-1, -1, -1}, []int{-1, -1, -1}}, {"o", []int{-1}, []int{-1}}, {"p", []int{-1}, []int{-1}},
		{"p.q.", []int{-1, -1, -1, -1}, []int{-1, -1, -1, -1}}, {"onm", []int{-1, -1, -1}, []int{-1, -1, -1}}, {"op.m", []int{-1, -1, -1, -1}, []int{-1, -1, -1, -1}},
		// one: from within it, from where it begins, and from the cell behind that
		{"o.", []int{1, 1}, []int{1, 1}}, {".m", []int{0, 0}, []int{0, 0}}, {"..n..", []int{3, 3, 3, 3, 3}, []int{3, 3, 3, 3, 3}}, {"....o", []int{0, 0, 0, 0, 0}, []int{0, 0, 0, 0, 0}},
		{"p.o..q", []int{3, 3, 3, 3, 3, 3}, []int{3, 3, 3, 3, 3, 3}}, {"oo.", []int{2, 2, 2}, []int{2, 2, 2}}, {"p.o", []int{-1, -1, -1}, []int{-1, -1, -1}},
		// two: from a field's first cell the other one is the last that begins ahead
		{"o..n..", []int{4, 4, 4, 1, 1, 1}, []int{4, 4, 1, 1, 1, 4}}, {".o.n", []int{2, 0, 0, 2}, []int{2, 0, 0, 2}}, {"o.n.", []int{3, 3, 1, 1}, []int{3, 3, 1, 1}},
		{"o.p..n", []int{1, 1, 1, 1, 1, 1}, []int{1, 1, 1, 1, 1, 1}}, {".p.o..m", []int{4, 4, 4, 0, 0, 0, 4}, []int{4, 0, 0, 0, 0, 4, 4}},
		// three, with protected fields, and open ones without cells, among them
		{"o.m.n.", []int{3, 3, 5, 5, 1, 1}, []int{5, 5, 1, 1, 3, 3}}, {"oo..p.nq.m", []int{2, 2, 2, 2, 2, 2, 2, 2, 2, 2}, []int{2, 2, 2, 2, 2, 2, 2, 2, 2, 2}},
		{"..n..p.oo.", []int{3, 3, 9, 9, 9, 9, 9, 9, 3, 3}, []int{9, 9, 9, 9, 3, 3, 3, 3, 3, 3}},
		{"q.o..on.p.", []int{3, 3, 7, 7, 7, 7, 3, 3, 3, 3}, []int{7, 7, 7, 7, 3, 3, 3, 3, 7, 7}},
	} {
		s := drawn(x.picture)
		for a, want := range x.next {
			if got := field.Next(s, a); got != want {
				t.Errorf("%s: Next of %d is %d, not %d", x.picture, a, got, want)
			}
		}
		for a, want := range x.prev {
			if got := field.Prev(s, a); got != want {
				t.Errorf("%s: Prev of %d is %d, not %d", x.picture, a, got, want)
			}
		}
	}
}

// P11.2: screens of one row and of one column, of several, and longer ones, from each cell.
func TestStepsOfShapes(t *testing.T) {
	for _, picture := range []string{".", "o", "q", "o....", "p...", "n..p..m..q..o", "o.n.m", "oop.q", "...........................o", "p.onm.q....o..n"} {
		for _, x := range []shape{{1, 1}, {1, 80}, {80, 1}, {5, 13}, {2, 2}, {12, 12}, {1, 3}, {3, 1}} {
			s := filled(x, picture)
			for a := range s.Cells {
				checkSteps(t, s, a)
			}
		}
	}
}

// P11.2: as many open fields as there may be, from cells near by and far off.
func TestStepsOfGreatScreens(t *testing.T) {
	for _, x := range great {
		for _, at := range [][]int{nil, {0}, {most - 1}, {8000}, {0, most - 1}, {most - 2, most - 1}, {3, 9000}, {0, 8000, 8001, 8002, 16000}} {
			s := withFields(x, 'o', at...)
			for a := 0; a < most; a += 997 {
				checkSteps(t, s, a)
			}
			for _, begin := range at {
				for _, n := range []int{most - 2, most - 1, 0, 1, 2, 3} {
					checkSteps(t, s, (begin+n)%most)
				}
			}
		}
	}
}

// P11.2: Next from where open fields begin goes through all of those with cells, and comes back; from first cells Prev goes the same way back.
func TestStepsAllAround(t *testing.T) {
	for _, picture := range []string{"o.n..p.m.", "..o.n", "o..", "p.o..onm.q.o....."} {
		s := filled(shape{6, 9}, picture)
		var first []int
		for _, begin := range field.Begins(s) {
			if l := field.Cells(s, begin); len(l) > 0 && field.Open(s, l[0]) {
				first = append(first, l[0])
			}
		}
		for i, at := range first {
			next, prev := first[(i+1)%len(first)], first[(i+len(first)-1)%len(first)]
			if got := field.Next(s, at); got != next {
				t.Errorf("%s: Next of %d is %d, not %d", picture, at, got, next)
			}
			if got := field.Prev(s, at); got != prev {
				t.Errorf("%s: Prev of %d is %d, not %d", picture, at, got, prev)
			}
		}
	}
}

// P11.3: each cell of a formatted screen lies in one field, or is where one begins; nothing else.
func TestEachCellInOneField(t *testing.T) {
	check := func(s api.Screen) {
		if !field.Formatted(s) {
			return
		}
		times := make([]int, len(s.Cells))
		for _, begin := range field.Begins(s) {
			times[begin]++
			for _, at := range field.Cells(s, begin) {
				times[at]++
				if field.Begin(s, at) != begin || field.Of(s, at) != field.Of(s, begin) {
					t.Fatalf("%v: the field of %d begins at %d, not %d", s, at, field.Begin(s, at), begin)
				}
			}
		}
		for a, n := range times {
			if n != 1 {
				t.Fatalf("%v: %d is told %d times", s, a, n)
			}
		}
	}
	everyScreen(check)
	for _, picture := range []string{"o", "p.a..n..q....mo..", "..........n...."} {
		check(filled(shape{24, 80}, picture))
	}
	check(withFields(shape{127, 129}, 'n', 5000))
}

// P11.3: the cell that Next or Prev tells is open, and the first of its field; they tell one, if there is an open cell in a field, and else -1.
func TestStepsTellOpenCells(t *testing.T) {
	check := func(s api.Screen) {
		open := false
		for a := range s.Cells {
			open = open || field.Formatted(s) && field.Open(s, a)
		}
		for a := range s.Cells {
			for _, to := range []int{field.Next(s, a), field.Prev(s, a)} {
				if to == -1 && !open {
					continue
				}
				if to < 0 || to >= len(s.Cells) || !field.Open(s, to) || field.Cells(s, to)[0] != to {
					t.Fatalf("%v: from %d to %d", s, a, to)
				}
			}
		}
	}
	everyScreen(check)
	for _, picture := range []string{"q", "p.a..n..q....mo..", "..........n...."} {
		check(filled(shape{6, 20}, picture))
	}
}
