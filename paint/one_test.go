package paint_test

import (
	"testing"

	"shutter/api"
	"shutter/paint"
)

// painted is an order, the picture and place that it is done at, and the picture and place behind it.
type painted struct {
	picture string
	at      int
	order   api.Order
	want    string
	to      int
}

// checkPainted holds One against what is written out: cursor, Locked and Insert stay, whatever they are.
func checkPainted(t *testing.T, list []painted) {
	t.Helper()
	for _, x := range list {
		for n := range 4 {
			s, want := drawn(x.picture), drawn(x.want)
			s.Cursor, s.Locked, s.Insert = n%len(s.Cells), n&1 != 0, n&2 != 0
			want.Cursor, want.Locked, want.Insert = s.Cursor, s.Locked, s.Insert
			got, to, err := paint.One(s, x.at, x.order)
			if err != nil || to != x.to || !alike(got, want) {
				t.Errorf("%s from %d, %v: %v at %d (%v), not %s at %d", x.picture, x.at, x.order, got, to, err, x.want, x.to)
			}
		}
	}
}

// P12.1: each right order, from each cell of every small screen, against the document's words.
func TestOneOfEveryScreen(t *testing.T) {
	everyScreen(func(s api.Screen) {
		for at := range s.Cells {
			for _, o := range orders(len(s.Cells)) {
				checkOne(t, s, at, o)
			}
		}
	}, shape{1, 1}, shape{1, 2}, shape{2, 1}, shape{3, 1}, shape{2, 2}, shape{1, 5}, shape{2, 3})
}

// P12.1: texts, written out: of one character, around the end, as long as the screen and longer, and over cells where fields begin.
func TestText(t *testing.T) {
	checkPainted(t, []painted{
		{".....", 0, text("a"), "a....", 1}, {".....", 2, text("a"), "..a..", 3}, {".....", 4, text("a"), "....a", 0},
		{"bbbbb", 2, text("."), "bb.bb", 3}, {".", 0, text("a"), "a", 0},
		{".....", 1, text("abc"), ".abc.", 4}, {".....", 2, text("abc"), "..abc", 0}, {".....", 3, text("abc"), "c..ab", 1},
		{".....", 0, text("abcde"), "abcde", 0}, {".....", 2, text("abcde"), "deabc", 2},
		{".....", 0, text("abcdef"), "fbcde", 1}, {"...", 1, text("abcd"), "cdb", 2}, {"..", 1, text("abcde"), "de", 0}, {".", 0, text("abc"), "c", 0},
		{"o.p.q", 0, text("ab"), "abp.q", 2}, {"o.p.q", 1, text("ab"), "oab.q", 3}, {"o.p.q", 4, text("ab"), "b.p.a", 1},
		{"opqmn", 3, text("abcde"), "cdeab", 3}, {"p....", 0, text("a"), "a....", 1}, {"....q", 4, text("."), ".....", 0},
		{"p....", 2, text("ab"), "p.ab.", 4}, {"o", 0, text("a"), "a", 0},
	})
}

// P12.1: each character, put by a text and by a Repeat, over a letter and over a field.
func TestEachCharacter(t *testing.T) {
	for _, c := range chars() {
		for at, picture := range []string{"a.", "bq", "oo"} {
			s, at := drawn(picture), at%2
			want := twin(s)
			want.Cells[at] = api.Cell{Char: c}
			for _, o := range []api.Order{{Kind: api.Text, Text: []byte{c}}, repeat(1-at, c)} {
				got, to, err := paint.One(s, at, o)
				if err != nil || to != 1-at || !alike(got, want) {
					t.Errorf("%s from %d, %v: %v at %d (%v)", picture, at, o, got, to, err)
				}
			}
		}
	}
}

// P12.1: a field of each attribute begins at the first, a middle and the last cell, whatever was there.
func TestStart(t *testing.T) {
	for _, attr := range attrs() {
		for _, was := range []byte(".aonmpq*") {
			for at, picture := range []string{"ab.n.", "a.q.o", "op.m.", "oopqm", "a...."} {
				s := drawn(picture)
				s.Cells[at] = cellOf(was)
				want := twin(s)
				want.Cells[at] = api.Cell{Field: true, Attr: attr}
				got, to, err := paint.One(s, at, api.Order{Kind: api.Start, Attr: attr})
				if err != nil || to != (at+1)%5 || !alike(got, want) {
					t.Errorf("%v over %c of %s at %d: %v at %d (%v)", attr, was, picture, at, got, to, err)
				}
			}
		}
	}
	checkPainted(t, []painted{{".....", 0, start('q'), "q....", 1}, {"a.p..", 2, start('o'), "a.o..", 3}, {"a.p.b", 4, start('m'), "a.p.m", 0}, {"a", 0, start('p'), "p", 0}})
}

// P12.1: Set moves the place alone, Cursor the cursor alone: from each cell, to each.
func TestSetAndCursor(t *testing.T) {
	for _, picture := range []string{"a", "o", "..", ".abc.", "o.p.q", "oopqn"} {
		for n := range 4 * len(picture) {
			s := drawn(picture)
			s.Cursor, s.Locked, s.Insert = n/4, n&1 != 0, n&2 != 0
			for at := range s.Cells {
				want := twin(s)
				want.Cursor = at
				got, to, err := paint.One(s, at, cursor)
				if err != nil || to != at || !alike(got, want) {
					t.Errorf("%v, Cursor at %d: %v at %d (%v)", s, at, got, to, err)
				}
				for addr := range s.Cells {
					got, to, err := paint.One(s, at, set(addr))
					if err != nil || to != addr || !alike(got, s) {
						t.Errorf("%v from %d, Set %d: %v at %d (%v)", s, at, addr, got, to, err)
					}
				}
			}
		}
	}
}

// P12.1: the place that Tab leads to from each cell, written out.
func TestTab(t *testing.T) {
	for _, x := range []struct {
		picture string
		to      []int
	}{
		// no open field
		{"a", []int{0}}, {".....", []int{0, 0, 0, 0, 0}}, {"p", []int{0}}, {"p.q..", []int{0, 0, 0, 0, 0}}, {"..q", []int{0, 0, 0}},
		// one, ahead of the place only, at it, or behind it
		{"o.a..", []int{1, 0, 0, 0, 0}}, {".o.a.", []int{2, 2, 0, 0, 0}}, {"..n..", []int{3, 3, 3, 0, 0}}, {"...m.", []int{4, 4, 4, 4, 0}},
		// several: the first of them, not the nearest one around
		{"o.n.m.", []int{1, 3, 3, 5, 5, 0}}, {".o..n..", []int{2, 2, 5, 5, 5, 0, 0}},
		// without cells
		{"o", []int{0}}, {"ooo", []int{0, 0, 0}}, {"opo", []int{0, 0, 0}}, {".onm.", []int{4, 4, 4, 4, 0}}, {"op.o.", []int{4, 4, 4, 4, 0}}, {"nqn.p", []int{3, 3, 3, 0, 0}}, {"mm.mm", []int{2, 2, 0, 0, 0}},
		// at the last cell: its first cell lies around the end, or there is none
		{"a...o", []int{0, 0, 0, 0, 0}}, {".o..n", []int{2, 2, 0, 0, 0}}, {"o...o", []int{1, 0, 0, 0, 0}}, {"p...o", []int{0, 0, 0, 0, 0}},
		// protected ones between
		{"p.q.o.", []int{5, 5, 5, 5, 5, 0}}, {".p.o.q.n.", []int{4, 4, 4, 4, 8, 8, 8, 8, 0}}, {"o.p...", []int{1, 0, 0, 0, 0, 0}}, {"pqo.q", []int{3, 3, 3, 0, 0}},
	} {
		for at, to := range x.to {
			checkPainted(t, []painted{{x.picture, at, tab, x.picture, to}})
		}
	}
	for _, attr := range attrs() {
		s := drawn("a....")
		s.Cells[2] = api.Cell{Field: true, Attr: attr}
		want := 3
		if attr.Protected {
			want = 0
		}
		for at := range 3 {
			if _, to, err := paint.One(s, at, tab); err != nil || to != want {
				t.Errorf("%v from %d: %d (%v)", attr, at, to, err)
			}
		}
	}
}

// P12.1: Repeat up to a place behind, around the end, and up to the place itself, over cells of all kinds.
func TestRepeat(t *testing.T) {
	checkPainted(t, []painted{
		{".....", 1, repeat(3, star), ".**..", 3}, {".....", 0, repeat(4, star), "****.", 4}, {".....", 0, repeat(1, star), "*....", 1}, {".....", 3, repeat(4, star), "...*.", 4},
		{".....", 3, repeat(1, star), "*..**", 1}, {".....", 3, repeat(2, star), "**.**", 2}, {".....", 4, repeat(0, star), "....*", 0}, {".....", 1, repeat(0, star), ".****", 0},
		{".....", 0, repeat(0, star), "*****", 0}, {".....", 2, repeat(2, star), "*****", 2}, {"abcde", 4, repeat(4, 0), ".....", 4}, {".", 0, repeat(0, star), "*", 0}, {"q", 0, repeat(0, star), "*", 0},
		{"o.p.q", 0, repeat(3, star), "***.q", 3}, {"o.p.q", 4, repeat(2, 0), "..p..", 2}, {"oapbq", 2, repeat(2, star), "*****", 2}, {"pabcd", 1, repeat(3, star), "p**cd", 3}, {"p.o.a", 2, repeat(3, 0), "p...a", 3},
	})
}

// P12.1: Erase up to a place behind, around the end, and up to the place itself, over open and protected fields and where fields begin, and of no field.
func TestErase(t *testing.T) {
	checkPainted(t, []painted{
		{"abcde", 1, erase(3), "a..de", 3}, {"abcde", 0, erase(1), ".bcde", 1}, {"abcde", 3, erase(1), ".bc..", 1}, {"abcde", 4, erase(0), "abcd.", 0},
		{"abcde", 0, erase(0), ".....", 0}, {"abcde", 3, erase(3), ".....", 3}, {"a", 0, erase(0), ".", 0},
		{"oabcd", 0, erase(3), "o..cd", 3}, {"oabcd", 2, erase(4), "oa..d", 4}, {"oabcd", 3, erase(1), "oab..", 1}, {"abncd", 0, erase(0), "..n..", 0}, {"abcdm", 4, erase(2), "..cdm", 2},
		{"pabcd", 0, erase(0), "pabcd", 0}, {"pabcd", 2, erase(4), "pabcd", 4}, {"abqcd", 3, erase(1), "abqcd", 1}, {"abcdp", 1, erase(1), "abcdp", 1},
		{"oabpcd", 0, erase(0), "o..pcd", 0}, {"oabpcd", 4, erase(4), "o..pcd", 4}, {"oabpcd", 4, erase(2), "o.bpcd", 2}, {"oabpcd", 2, erase(5), "oa.pcd", 5},
		{"abocqd", 5, erase(1), "abocqd", 1}, {"abpcnd", 5, erase(1), ".bpcn.", 1}, {"abpcnd", 0, erase(4), "..pcnd", 4}, {"abocqd", 1, erase(5), "abo.qd", 5},
		{"oopq", 0, erase(0), "oopq", 0}, {"o", 0, erase(0), "o", 0}, {"p", 0, erase(0), "p", 0}, {"oa", 1, erase(0), "o.", 0}, {"ap", 0, erase(1), "ap", 1},
	})
}

// P12.1: screens of as many cells as there may be, and of sizes whose addresses are written short and long, from and to their first, middle and last cells.
func TestOneOfGreatScreens(t *testing.T) {
	for _, x := range append([]shape{{24, 80}, {64, 64}, {17, 241}}, great...) {
		size := x.rows * x.cols
		cells := []int{0, size / 2, size - 1}
		for _, picture := range []string{"a", "o", "q", "ab.oc.pd.", "pa.................o.................b"} {
			s := filled(x, picture)
			for _, at := range cells {
				for _, to := range cells {
					for _, o := range []api.Order{set(to), repeat(to, star), erase(to), tab, cursor, start('q'), text("ab")} {
						checkOne(t, s, at, o)
					}
				}
				checkOne(t, s, at, api.Order{Kind: api.Text, Text: make([]byte, size+1)})
			}
		}
		one := filled(x, "a")
		one.Cells[size/2] = cellOf('o')
		for _, o := range []api.Order{tab, erase(0), erase(size / 2), erase(size - 1)} {
			checkOne(t, one, 0, o)
			checkOne(t, one, size-1, o)
		}
	}
}
