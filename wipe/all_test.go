package wipe_test

import (
	"testing"

	"shutter/api"
	"shutter/grid"
	"shutter/host"
	"shutter/wipe"
)

// P16.1: all input, written out, wherever the cursor is, with Insert and without, which stays: open cells, Modified of open fields, and the cursor at the first open field's first cell from the screen's beginning on, or at 0.
func TestAll(t *testing.T) {
	for _, x := range []struct {
		picture, want string
		to            int
	}{
		// no field: all cells go
		{"a", ".", 0}, {".", ".", 0}, {"abc", "...", 0}, {"a.1", "...", 0}, {"a/b", "./.", 0}, {"ab/.c/1e", "../../..", 0},
		// one: those that are Protected stay Modified, and keep their cells
		{"oabc", "o...", 1}, {"Oabc", "o...", 1}, {"abNc1", "..n..", 3}, {"pabc", "pabc", 0}, {"Pabc", "Pabc", 0}, {"abQcd", "abQcd", 0}, {"ab/Oc/de", "../o./..", 3}, {"P/a/b", "P/a/b", 0},
		// around the end: its first cell is the screen's
		{"abcO", "...o", 0}, {"abcQ", "abcQ", 0}, {"abPcO", "..Pco", 0}, {"a/b/n", "././n", 0},
		// several: the first that begins, also where the last one's cells come first
		{"OabPcNd", "o..Pcn.", 1}, {"abPcdNe", "..Pcdn.", 6}, {"aNbOcPd", "an.o.Pd", 2}, {"abNcOde", "..n.o..", 3}, {"aObcQO", ".o..Qo", 2}, {"PaQbPcN", "PaQbPcn", 0}, {"qab/pcd/oef", "qab/pcd/o..", 7}, {"pao/bcq/dNe", "pao/..q/dn.", 3},
		// without cells; no open field with cells at all
		{"OONab", "oon..", 3}, {"OPaNb", "oPan.", 4}, {"aONPb", "aonPb", 0}, {"OQ", "oQ", 0}, {"ON", "on", 0}, {"O", "o", 0}, {"Q", "Q", 0}, {"oQabN", "oQabn", 0}, {"OabN", "o..n", 1}, {"PaN/OQb", "Pan/oQb", 0},
		// not Modified ones
		{"oabpcnd", "o..pcn.", 1}, {"pabq1oc", "pabq1o.", 6},
	} {
		for cursor := range drawn(x.picture, 0).Cells {
			for flags := 0; flags < 4; flags += 2 {
				checkWiped(t, flagged(drawn(x.picture, cursor), flags), api.KeyAll, flagged(drawn(x.want, x.to), flags), 0)
			}
		}
	}
}

// P16.1: all input of every small screen, against the document's words.
func TestAllOfEveryScreen(t *testing.T) {
	everyDesk(func(s api.Screen) { checkDo(t, s, api.KeyAll) })
}

// P16.1: all input of a field of each attribute: it is Modified no more, if it is open, and nothing else about it changes.
func TestAllOfEachAttribute(t *testing.T) {
	for _, a := range attrs() {
		s, want := drawn("abocd", 1), drawn("..o..", 3)
		s.Cells[2] = api.Cell{Field: true, Attr: a}
		if a.Protected {
			want = drawn("abocd", 0)
		}
		a.Modified = a.Modified && a.Protected
		want.Cells[2] = api.Cell{Field: true, Attr: a}
		checkWiped(t, s, api.KeyAll, want, 0)
	}
}

// P16.1: each character in an open cell is gone behind all input, and stays in a protected one.
func TestAllOfEachCharacter(t *testing.T) {
	for c := range 256 {
		s, want := drawn("o.p.", 3), drawn("o.p.", 1)
		s.Cells[1].Char, s.Cells[3].Char, want.Cells[3].Char = byte(c), byte(c), byte(c)
		if grid.Right(s) {
			checkWiped(t, s, api.KeyAll, want, 0)
		}
	}
}

// P16.1: all input of great screens, of many fields, of one that is first, in the middle and last, and of none.
func TestAllOfGreatScreens(t *testing.T) {
	for _, x := range great {
		last := x.rows*x.cols - 1
		for _, picture := range []string{"ab.", "OaPb", "Q", "ab.Oc.pd.", "PaO"} {
			for n, cursor := range []int{0, last / 2, last} {
				s := filled(x, picture)
				s.Cursor = cursor
				checkDo(t, flagged(s, n&1<<1), api.KeyAll)
				for _, kind := range []byte("OQ") {
					s.Cells[cursor] = cellOf(kind)
					checkDo(t, s, api.KeyAll)
				}
			}
		}
	}
}

// P16.2: behind all input it is as behind the host's Clean, but that Locked and Insert are as they were.
func TestAllIsClean(t *testing.T) {
	check := func(s api.Screen) {
		want, err := host.Do(s, api.Out{Cmd: api.CmdClean})
		if err != nil {
			t.Fatal(err)
		}
		want.Locked, want.Insert = s.Locked, s.Insert
		checkWiped(t, s, api.KeyAll, want, 0)
	}
	everyDesk(check)
	for n, x := range great {
		for _, picture := range []string{"a", "Oa.Pb", "QNab"} {
			check(flagged(filled(x, picture), n&1<<1))
		}
	}
}

// P16.2: all input changes open cells alone, which are all empty then, and whether attributes are Modified, of open fields; a right screen stays right.
func TestWhatAllChanges(t *testing.T) {
	everyDesk(func(s api.Screen) {
		got, err := wipe.Do(s, api.KeyAll)
		if err != nil || !grid.Right(got) || got.Rows != s.Rows || got.Cols != s.Cols || got.Locked || got.Insert != s.Insert {
			t.Fatalf("%v: %v (%v)", s, got, err)
		}
		for i, want := range s.Cells {
			want.Attr.Modified = want.Attr.Modified && want.Attr.Protected
			if isOpen(s, i) {
				want.Char = 0
			}
			if got.Cells[i] != want {
				t.Fatalf("%v: %v: changed at %d", s, got, i)
			}
		}
	})
}
