package host_test

import (
	"testing"

	"shutter/api"
	"shutter/field"
	"shutter/grid"
	"shutter/host"
)

// P13.1: Clean, written out: open cells, Modified, and the cursor at the first open field's first cell, from the screen's beginning on, or at 0, wherever it was; neither Locked nor Insert.
func TestClean(t *testing.T) {
	for _, x := range []struct {
		picture, want string
		to            int
	}{
		// no field
		{"a", ".", 0}, {"abcde", ".....", 0}, {".....", ".....", 0}, {"a.*.b", ".....", 0},
		// one
		{"oabcd", "o....", 1}, {"Oabcd", "o....", 1}, {"abNcd", "..n..", 3}, {"pabcd", "pabcd", 0}, {"abQcd", "abQcd", 0}, {"Pa", "Pa", 0}, {"aO", ".o", 0}, {"O", "o", 0}, {"P", "P", 0},
		// one that begins at the last cell: its first cell lies around the end
		{"abcdO", "....o", 0}, {"abcdQ", "abcdQ", 0}, {"abPcO", "..Pco", 0},
		// several: the cursor goes to the first that begins, where one lies around the end, too
		{"OabPcNd", "o..Pcn.", 1}, {"abPcdNe", "..Pcdn.", 6}, {"aNbOcPd", "an.o.Pd", 2}, {"abNcOde", "..n.o..", 3}, {"aOb*cQO", ".o...Qo", 2}, {"PaObQcN", "Pao.Qcn", 3}, {"PaQbPcN", "PaQbPcn", 0},
		// without cells
		{"OON.b", "oon..", 3}, {"OPaNb", "oPan.", 4}, {"aONPb", "aonPb", 0}, {"OQ", "oQ", 0}, {"ON", "on", 0}, {"OabcN", "o...n", 1}, {"PabcO", "Pabco", 0}, {"aPOQO", ".PoQo", 0},
		// open and protected ones that aren't Modified
		{"oabpcnd", "o..pcn.", 1}, {"pabq.oc", "pabq.o.", 6},
	} {
		for cursor := range len(x.picture) {
			for flags := range 4 {
				checkScreen(t, flagged(drawn(x.picture, cursor), flags), api.Out{Cmd: api.CmdClean}, drawn(x.want, x.to))
			}
		}
	}
}

// P13.1: Clean of every small screen, against the document's words.
func TestCleanOfEveryScreen(t *testing.T) {
	everyScreen(func(s api.Screen) {
		checkDo(t, s, api.Out{Cmd: api.CmdClean})
	}, shape{1, 1}, shape{1, 2}, shape{2, 1}, shape{1, 3}, shape{2, 2}, shape{5, 1})
}

// P13.1: Clean of a field of each attribute: it is Modified no more, if it is open.
func TestCleanOfEachAttribute(t *testing.T) {
	for _, a := range attrs() {
		s := drawn("ab.cd", 1)
		s.Cells[2] = api.Cell{Field: true, Attr: a}
		want, to := drawn("ab.cd", 0), a
		if !a.Protected {
			to.Modified = false
			want = drawn(".....", 3)
		}
		want.Cells[2] = api.Cell{Field: true, Attr: to}
		checkScreen(t, s, api.Out{Cmd: api.CmdClean}, want)
	}
}

// P13.1: each character in an open cell is gone behind Clean, and stays in a protected one.
func TestCleanOfEachCharacter(t *testing.T) {
	for n := range 256 {
		s, want := drawn("o.p.", 3), drawn("o.p.", 1)
		s.Cells[1].Char, s.Cells[3].Char, want.Cells[3].Char = byte(n), byte(n), byte(n)
		if grid.Right(s) {
			checkScreen(t, s, api.Out{Cmd: api.CmdClean}, want)
		}
	}
}

// P13.1: Clean of screens of as many cells as there may be, of many fields, of one that is first, in the middle and last, and of none.
func TestCleanOfGreatScreens(t *testing.T) {
	for _, x := range sizes {
		size := x.rows * x.cols
		for _, picture := range []string{"a", "OaPb", "Q", "ab.Oc.pd.", "PaO"} {
			for n, cursor := range []int{0, size / 2, size - 1} {
				s := filled(x, picture)
				s.Cursor = cursor
				checkDo(t, flagged(s, n), api.Out{Cmd: api.CmdClean})
				for _, kind := range []byte("OQ") {
					s.Cells[cursor] = cellOf(kind)
					checkDo(t, flagged(s, n+1), api.Out{Cmd: api.CmdClean})
				}
			}
		}
	}
}

// P13.1: Read and Mod change nothing, of every small screen and of great ones.
func TestReaders(t *testing.T) {
	for _, cmd := range readers {
		everyScreen(func(s api.Screen) {
			checkScreen(t, s, api.Out{Cmd: cmd}, s)
		}, shape{1, 1}, shape{2, 1}, shape{1, 3}, shape{2, 2})
		for n, x := range sizes {
			s := flagged(filled(x, "OaP.b"), n)
			s.Cursor = len(s.Cells) - 1
			checkScreen(t, s, api.Out{Cmd: cmd, Orders: []api.Order{}}, s)
		}
	}
}

// P13.3: Clean changes no attribute but that it was Modified, and no protected cell; the cursor is on an open cell, if there is a field with one.
func TestCleanKeepsWhatIsProtected(t *testing.T) {
	everyScreen(func(s api.Screen) {
		got, err := host.Do(s, api.Out{Cmd: api.CmdClean})
		if err != nil {
			t.Fatal(err)
		}
		for i, c := range s.Cells {
			behind := got.Cells[i]
			c.Attr.Modified, behind.Attr.Modified = false, false
			switch open := field.Open(s, i); {
			case !open && behind != c:
				t.Fatalf("%v: %v at %d", s, behind, i)
			case open && behind != (api.Cell{}):
				t.Fatalf("%v: %v at %d", s, behind, i)
			}
		}
		if field.Next(s, 0) >= 0 && !field.Open(got, got.Cursor) {
			t.Fatalf("%v: the cursor is at %d", s, got.Cursor)
		}
	}, shape{1, 1}, shape{1, 2}, shape{1, 3}, shape{2, 2})
}
