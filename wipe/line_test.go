package wipe_test

import (
	"slices"
	"testing"

	"shutter/api"
	"shutter/grid"
	"shutter/wipe"
)

// checkLine holds Delete and to the end, at a cell of a picture, against the pictures behind them; the cursor stays, and so does Insert.
func checkLine(t *testing.T, picture string, cursor int, deleted, ended string) {
	t.Helper()
	for flags := 0; flags < 4; flags += 2 {
		s := flagged(drawn(picture, cursor), flags)
		checkWiped(t, s, api.KeyDelete, flagged(drawn(deleted, cursor), flags), 0)
		checkWiped(t, s, api.KeyToEnd, flagged(drawn(ended, cursor), flags), 0)
	}
}

// P16.1: the document's example: Delete at the last cell of a field empties that one.
func TestDeleteAtTheLastCell(t *testing.T) {
	checkLine(t, "oabp.", 2, "Oa.p.", "Oa.p.")
	checkLine(t, "oab", 2, "Oa.", "Oa.")
	checkLine(t, "abpoc", 1, "a.pOc", "a.pOc")
}

// P16.1: Delete and to the end in a field: at its first cell, in its midst and at its last one; what lies ahead of the cursor and in other fields stays, and the field is Modified, be it ahead or not.
func TestLineInAField(t *testing.T) {
	for _, x := range []struct {
		picture        string
		cursor         int
		deleted, ended string
	}{
		// its first cell, one in its midst, its last one
		{"oabc", 1, "Obc.", "O..."}, {"oabc", 2, "Oac.", "Oa.."}, {"oabc", 3, "Oab.", "Oab."}, {"oa", 1, "O.", "O."},
		{"pdoabcne", 3, "pdObc.ne", "pdO...ne"}, {"pdoabcne", 4, "pdOac.ne", "pdOa..ne"}, {"pdoabcne", 5, "pdOab.ne", "pdOab.ne"},
		// already Modified, Numeric, ahead of fields of each kind, and of the same kind
		{"Oabc", 2, "Oac.", "Oa.."}, {"n123", 1, "N23.", "N..."}, {"N123", 3, "N12.", "N12."}, {"oabocd", 1, "Ob.ocd", "O..ocd"}, {"oabocd", 4, "oabOd.", "oabO.."}, {"oabqcd", 1, "Ob.qcd", "O..qcd"}, {"oabPcd", 2, "Oa.Pcd", "Oa.Pcd"}, {"QaN1Pb", 3, "QaN.Pb", "QaN.Pb"},
		// with the character 0 at the cursor, behind it, ahead of it, and all about: just one cell goes
		{"o.ab", 1, "Oab.", "O..."}, {"oa.b", 1, "O.b.", "O..."}, {"oa.b", 2, "Oab.", "Oa.."}, {"o..a", 3, "O...", "O..."}, {"oa..b", 2, "Oa.b.", "Oa..."}, {"o...", 2, "O...", "O..."}, {"O.", 1, "O.", "O."},
		// rows don't matter: of two rows, of one column
		{"oab/cd.", 1, "Obc/d..", "O../..."}, {"pao/bcd", 3, "paO/cd.", "paO/..."}, {"oab/cpd/efg", 2, "Oac/.pd/efg", "Oa./.pd/efg"}, {"o/a/b/p/c", 1, "O/b/./p/c", "O/././p/c"}, {"p/o/a/b", 3, "p/O/a/.", "p/O/a/."},
	} {
		checkLine(t, x.picture, x.cursor, x.deleted, x.ended)
	}
}

// P16.1: where the field goes on around the screen's end, so does the line: the characters move back around it, and to the end empties the cells there, too.
func TestLineAroundTheEnd(t *testing.T) {
	for _, x := range []struct {
		picture        string
		cursor         int
		deleted, ended string
	}{
		// one field: ahead of the end, and behind it
		{"cdoab", 3, "d.Obc", "..O.."}, {"cdoab", 4, "d.Oac", "..Oa."}, {"cdoab", 0, "d.Oab", "..Oab"}, {"cdoab", 1, "c.Oab", "c.Oab"}, {"abcO", 0, "bc.O", "...O"}, {"abcn", 1, "ac.N", "a..N"}, {"abcn", 2, "ab.N", "ab.N"}, {"aob", 2, ".Oa", ".O."}, {"ao", 0, ".O", ".O"},
		// several: the last one begins there
		{"abpcodef", 5, "b.pcOefa", "..pcO..."}, {"abpcodef", 7, "b.pcOdea", "..pcOde."}, {"abpcodef", 0, "b.pcOdef", "..pcOdef"}, {"abpcodef", 1, "a.pcOdef", "a.pcOdef"}, {"aoboc", 4, ".obOa", ".obO."}, {"aoboc", 0, ".obOc", ".obOc"}, {"aoboc", 2, "aO.oc", "aO.oc"}, {"abqN", 1, "a.qN", "a.qN"}, {"oabcO", 2, "Oac.O", "Oa..O"},
		// with the character 0 on either side
		{".aob.", 3, "a.O..", "..O.."}, {".aob.", 4, "a.Ob.", "..Ob."}, {"a.o.b", 4, "..O.a", "..O.."}, {"..o..", 4, "..O..", "..O.."},
		// of two rows, of one column
		{"abc/dob", 5, "bcd/.Oa", ".../.O."}, {"abp/cod", 5, "b.p/cOa", "..p/cO."}, {"a/o/b", 2, "./O/a", "./O/."}, {"a/b/p/o", 0, "b/./p/O", "././p/O"},
	} {
		checkLine(t, x.picture, x.cursor, x.deleted, x.ended)
	}
}

// P16.1: where there is no field the line ends with the screen, and nothing is Modified.
func TestLineWithoutFields(t *testing.T) {
	for _, x := range []struct {
		picture        string
		cursor         int
		deleted, ended string
	}{
		{"a", 0, ".", "."}, {".", 0, ".", "."}, {"ab", 0, "b.", ".."}, {"ab", 1, "a.", "a."}, {"abc", 0, "bc.", "..."}, {"abc", 1, "ac.", "a.."}, {"abc", 2, "ab.", "ab."},
		{"a.c", 0, ".c.", "..."}, {"a.c", 1, "ac.", "a.."}, {".bc", 2, ".b.", ".b."}, {"...", 1, "...", "..."},
		{"a/b/c", 0, "b/c/.", "././."}, {"a/b/c", 1, "a/c/.", "a/./."}, {"a/b/c", 2, "a/b/.", "a/b/."}, {"abc/def", 1, "acd/ef.", "a../..."}, {"abc/def", 3, "abc/ef.", "abc/..."}, {"abc/def", 5, "abc/de.", "abc/de."},
	} {
		checkLine(t, x.picture, x.cursor, x.deleted, x.ended)
	}
}

// P16.1: Delete and to the end on every small screen, at each cell, with Insert and without, against the document's words.
func TestLineOnEveryScreen(t *testing.T) {
	everyDesk(func(s api.Screen) {
		checkDo(t, s, api.KeyDelete)
		checkDo(t, s, api.KeyToEnd)
	})
}

// P16.1: in a field of each attribute, and ahead of one of each: of those that are open the first is Modified, and nothing else about it changes; in a protected one neither is done.
func TestLineOfEachAttribute(t *testing.T) {
	for _, a := range attrs() {
		s := drawn("oab.cd", 1)
		s.Cells[3] = api.Cell{Field: true, Attr: a}
		for s.Cursor = range s.Cells {
			checkDo(t, s, api.KeyDelete)
			checkDo(t, s, api.KeyToEnd)
		}
		s.Cursor = 4
		got, err := wipe.Do(s, api.KeyDelete)
		a.Modified = a.Modified || !a.Protected
		if (err != nil) != a.Protected || got.Cells[3] != (api.Cell{Field: true, Attr: a}) {
			t.Fatalf("%v: %v (%v)", a, got, err)
		}
	}
}

// P16.1: each character goes, and each is what moves.
func TestLineOfEachCharacter(t *testing.T) {
	for c := range 256 {
		s, deleted, ended := drawn("bnab.", 2), drawn(".Nb.b", 2), drawn(".N...", 2)
		s.Cells[2].Char = byte(c)
		if !grid.Right(s) {
			continue // no character
		}
		checkWiped(t, s, api.KeyDelete, deleted, 0)
		checkWiped(t, s, api.KeyToEnd, ended, 0)
		s = drawn("bnab.", 2)
		s.Cells[3].Char, deleted.Cells[2].Char = byte(c), byte(c)
		checkWiped(t, s, api.KeyDelete, deleted, 0)
		checkWiped(t, s, api.KeyToEnd, ended, 0)
	}
}

// P16.1: on great screens, of many fields, of one and of none: the first, a middle and the last cell; lines of nearly all cells.
func TestLineOnGreatScreens(t *testing.T) {
	for _, x := range great {
		last := x.rows*x.cols - 1
		for _, picture := range []string{"ab.", "abc", "oa.b", "qa.Nb", "ab.oc.Pd.q"} {
			for _, begin := range []int{none, 0, last / 2, last} {
				s := filled(x, picture)
				if begin != none {
					s.Cells[begin] = cellOf('o')
				}
				for _, s.Cursor = range []int{0, 1, last / 2, last/2 + 1, last - 1, last} {
					checkDo(t, flagged(s, s.Cursor&2), api.KeyDelete)
					checkDo(t, flagged(s, s.Cursor&2), api.KeyToEnd)
				}
			}
		}
	}
}

// P16.1: Delete, again and again, takes a line's characters one by one, as they come, up to the field's end; behind as many as there are cells it is as behind to the end.
func TestDeleteMany(t *testing.T) {
	s := drawn("depfoabc", 5)
	for _, picture := range []string{"e.pfObcd", "..pfOcde", "..pfOde.", "..pfOe..", "..pfO...", "..pfO..."} {
		want := drawn(picture, 5)
		checkWiped(t, s, api.KeyDelete, want, 0)
		s, _ = wipe.Do(s, api.KeyDelete)
	}
	everyDesk(func(s api.Screen) {
		ended, err := wipe.Do(s, api.KeyToEnd)
		if err != nil {
			return
		}
		for range s.Cells {
			s, err = wipe.Do(s, api.KeyDelete)
		}
		if err != nil || !grid.Same(s, ended) {
			t.Fatalf("%v, not %v (%v)", s, ended, err)
		}
	})
}

// P16.2: Delete and to the end change cells of the cursor's own open field alone, from the cursor on, and whether that is Modified; a right screen stays right.
func TestWhatLinesChange(t *testing.T) {
	count := 0
	everyDesk(func(s api.Screen) {
		for _, kind := range []int{api.KeyDelete, api.KeyToEnd} {
			got, err := wipe.Do(s, kind)
			if !grid.Right(got) || got.Rows != s.Rows || got.Cols != s.Cols || got.Cursor != s.Cursor || got.Insert != s.Insert || got.Locked != (err != nil) {
				t.Fatalf("%v, %d: %v (%v)", s, kind, got, err)
			}
			line, owner := []int{}, none
			if err == nil {
				line, owner = lineOf(s, s.Cursor), ownerOf(s, s.Cursor)
				count++
			}
			for i, behind := range got.Cells {
				was := s.Cells[i]
				was.Attr.Modified = was.Attr.Modified || i == owner
				if behind != was && !slices.Contains(line, i) {
					t.Fatalf("%v, %d: %v: changed at %d", s, kind, got, i)
				}
			}
		}
	})
	if count == 0 {
		t.Error("no key went")
	}
}
