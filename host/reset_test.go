package host_test

import (
	"testing"

	"shutter/api"
	"shutter/grid"
	"shutter/host"
)

// checkReset holds Reset, with all and without, against these screens.
func checkReset(t *testing.T, s, all, open api.Screen) {
	t.Helper()
	if got := host.Reset(s, true); !grid.Same(got, all) {
		t.Fatalf("%v, all: %v, not %v", brief(s), brief(got), brief(all))
	}
	if got := host.Reset(s, false); !grid.Same(got, open) {
		t.Fatalf("%v: %v, not %v", brief(s), brief(got), brief(open))
	}
}

// P13.2: Reset, written out: nothing else changes, the cursor, Locked and Insert among it.
func TestReset(t *testing.T) {
	for _, x := range []struct{ picture, all, open string }{
		{"a", "a", "a"}, {".....", ".....", "....."}, {"a.*bc", "a.*bc", "a.*bc"}, {"opnq", "opnq", "opnq"},
		{"O", "o", "o"}, {"N", "n", "n"}, {"P", "p", "P"}, {"Q", "q", "Q"},
		{"OaPbNcQd", "oapbncqd", "oaPbncQd"}, {"abcO", "abco", "abco"}, {"abcQ", "abcq", "abcQ"}, {"OONN", "oonn", "oonn"}, {"PPQQ", "ppqq", "PPQQ"},
		{"oaOb.PcpQnd*N", "oaob.pcpqnd*n", "oaob.PcpQnd*n"},
	} {
		for cursor := range len(x.picture) {
			for n := range 4 {
				checkReset(t, flagged(drawn(x.picture, cursor), n), flagged(drawn(x.all, cursor), n), flagged(drawn(x.open, cursor), n))
			}
		}
	}
}

// P13.2: Reset of each attribute, at the first, a middle and the last cell.
func TestResetOfEachAttribute(t *testing.T) {
	for _, a := range attrs() {
		for at := range 3 {
			s := drawn("ab*", 1)
			s.Cells[at] = api.Cell{Field: true, Attr: a}
			all, open := grid.Copy(s), grid.Copy(s)
			all.Cells[at].Attr = api.Attr{Protected: a.Protected, Numeric: a.Numeric, Show: a.Show}
			open.Cells[at].Attr = api.Attr{Protected: a.Protected, Numeric: a.Numeric, Show: a.Show, Modified: a.Modified && a.Protected}
			checkReset(t, s, all, open)
		}
	}
}

// P13.2, P13.3: Reset of every small screen, and of great ones, against the document's words; a right screen stays right.
func TestResetOfEveryScreen(t *testing.T) {
	check := func(s api.Screen) {
		all, open := grid.Copy(s), grid.Copy(s)
		for i, c := range s.Cells {
			all.Cells[i].Attr.Modified = false
			open.Cells[i].Attr.Modified = c.Attr.Modified && c.Attr.Protected
		}
		checkReset(t, s, all, open)
		if !grid.Right(host.Reset(s, true)) || !grid.Right(host.Reset(s, false)) {
			t.Fatalf("%v: not right", brief(s))
		}
	}
	everyScreen(check, shape{1, 1}, shape{2, 1}, shape{1, 3}, shape{2, 2})
	for n, x := range sizes {
		for _, picture := range []string{"a", "OaPbNcQ.", "O", "Q"} {
			s := filled(x, picture)
			s.Cursor = len(s.Cells) / 2
			check(flagged(s, n))
		}
	}
}
