package keys_test

import (
	"testing"

	"shutter/api"
	"shutter/edit"
	"shutter/grid"
	"shutter/keys"
	"shutter/move"
	"shutter/wipe"
)

// step is a key, and the picture and the cursor behind it.
type step struct {
	kind int
	char byte
	want string
	to   int
}

// P17.1: keys of each kind that types, moves or wipes, written out, on one screen: as their chapters say; none of them asks, and Insert stays.
func TestKeysOfOtherLayers(t *testing.T) {
	for flags := 0; flags < 4; flags += 2 {
		s := flagged(drawn("pab/oc./n.1/qe.", 5), flags)
		for _, x := range []step{
			{api.KeyType, 0xc4, "pab/Ocd/n.1/qe.", 7}, {api.KeyType, 0xf5, "pab/Ocd/N51/qe.", 8}, {api.KeyLeft, 0, "pab/Ocd/N51/qe.", 7}, {api.KeyDelete, 0, "pab/Ocd/N1./qe.", 7},
			{api.KeyUp, 0, "pab/Ocd/N1./qe.", 4}, {api.KeyToEnd, 0, "pab/O../N1./qe.", 4}, {api.KeyBack, 0, "pab/O../N1./qe.", 7}, {api.KeyRight, 0, "pab/O../N1./qe.", 8}, {api.KeyDown, 0, "pab/O../N1./qe.", 11}, {api.KeyTab, 0, "pab/O../N1./qe.", 4},
			{api.KeyType, 0xc2, "pab/Ob./N1./qe.", 5}, {api.KeyLine, 0, "pab/Ob./N1./qe.", 7}, {api.KeyHome, 0, "pab/Ob./N1./qe.", 4}, {api.KeyMark, 0, "pab/O-b/N1./qe.", 5}, {api.KeyAll, 0, "pab/o../n../qe.", 4}, {api.KeyDup, 0, "pab/O=./n../qe.", 7},
		} {
			if x.kind == api.KeyMark && flags == 0 {
				x.want = "pab/O-./N1./qe."
			}
			want := flagged(drawn(x.want, x.to), flags)
			checkPressed(t, s, api.Key{Kind: x.kind, Char: x.char}, want, false, 0)
			s = want
		}
	}
}

// P17.1: the document's example of Type: c1 on an empty screen is in the cell 0, and the cursor is 1.
func TestTypeOnAnEmptyScreen(t *testing.T) {
	checkPressed(t, drawn("...", 0), api.Key{Kind: api.KeyType, Char: 0xc1}, drawn("a..", 1), false, 0)
}

// P17.1: every key on every small screen, and on screens of many kinds, at each cell, Locked and not, with Insert and without, against the document's words.
func TestEveryKey(t *testing.T) {
	everyDesk(func(s api.Screen) {
		for _, k := range press {
			checkPress(t, s, k)
		}
	})
}

// P17.1: every kind there is with every byte, on a few screens, against the document's words.
func TestEveryByte(t *testing.T) {
	for i, picture := range []string{"oa.b", "n1.p", "ab.", "pa.q", "O.Q"} {
		for kind := range kinds + 2 {
			for c := range 256 {
				for n := range 4 {
					checkPress(t, flagged(drawn(picture, (i+c)%3), n), api.Key{Kind: kind, Char: byte(c)})
				}
			}
		}
	}
}

// P17.1: on great screens, of many fields, of one and of none, at the first, a middle and the last cell.
func TestKeysOnGreatScreens(t *testing.T) {
	for _, x := range great {
		last := x.rows*x.cols - 1
		for i, picture := range []string{"ab.", "a", "oa.b", "qa.Nb"} {
			for _, begin := range []int{none, 0, last} {
				s := filled(x, picture)
				if begin != none {
					s.Cells[begin] = cellOf('o')
				}
				for _, s.Cursor = range []int{0, 1, last / 2, last} {
					for n := i; n < len(press); n += 4 {
						checkPress(t, flagged(s, n&2), press[n])
					}
				}
			}
		}
	}
}

// P17.1: Type, the moves and the keys that wipe are what their own layers answer, the screen beside an error, too.
func TestAsOtherLayersAnswer(t *testing.T) {
	everyScreen(func(s api.Screen) {
		s.Cursor = len(s.Cells) / 2
		for n := range 4 {
			s = flagged(s, n)
			for kind := api.KeyType; kind <= api.KeyAll; kind++ {
				var want api.Screen
				var code error
				switch {
				case kind == api.KeyType:
					want, code = edit.Type(s, 0xc1)
				case move.Moves(kind):
					want, code = move.Do(s, kind)
				case wipe.Wipes(kind):
					want, code = wipe.Do(s, kind)
				default:
					continue
				}
				checkPressed(t, s, api.Key{Kind: kind, Char: 0xc1}, want, false, api.Errno(api.Code(code)))
			}
		}
	})
}

// checkLetter holds Dup or Mark, at a cell of a picture, against the picture and the cursor behind it, and, with Insert, against another picture; that one is "", where there is no room.
func checkLetter(t *testing.T, kind int, picture string, cursor int, put, in string, to int) {
	t.Helper()
	for _, c := range []byte{0, 0xc9, 0xff, 0x1c, 0x1e, 0x7d} {
		s, key := drawn(picture, cursor), api.Key{Kind: kind, Char: c}
		checkPressed(t, s, key, drawn(put, to), false, 0)
		s.Insert = true
		if in == "" {
			checkPressed(t, s, key, flagged(s, 3), false, api.ErrFull)
			continue
		}
		checkPressed(t, s, key, flagged(drawn(in, to), 2), false, 0)
	}
}

// P17.1: Dup, written out, with and without Insert: ByteDup is put at the cursor, or in ahead of what is there, and the cursor is Next of that cell, not of where Type leads.
func TestDup(t *testing.T) {
	for _, x := range []struct {
		picture string
		cursor  int
		put, in string
		to      int
	}{
		// the field goes on behind the cell: the rest of it is skipped
		{"oab.nc.", 1, "O=b.nc.", "O=abnc.", 5}, {"oab.nc.", 2, "Oa=.nc.", "Oa=bnc.", 5}, {"oa..pbnc.", 1, "O=..pbnc.", "O=a.pbnc.", 7}, {"oab/.p./nc.", 1, "O=b/.p./nc.", "O=a/bp./nc.", 7},
		// the field's last cell: the next one begins right there, so that Type leads into it, or Type leads on by itself
		{"oabnc.", 2, "Oa=nc.", "", 4}, {"oa.nc.", 2, "Oa=nc.", "Oa=nc.", 4}, {"oa.n.oc", 2, "Oa=n.oc", "Oa=n.oc", 4}, {"oa.pbnc.", 2, "Oa=pbnc.", "Oa=pbnc.", 6}, {"oa.qbnc.", 2, "Oa=qbnc.", "Oa=qbnc.", 6}, {"oa.qnc", 2, "Oa=qnc", "Oa=qnc", 5},
		// fields without cells are skipped, and protected ones
		{"oa.onc", 2, "Oa=onc", "Oa=onc", 5}, {"oa.oqpnc", 1, "O=.oqpnc", "O=aoqpnc", 7}, {"oa.oqnpb", 1, "O=.oqnpb", "O=aoqnpb", 1},
		// it is the only one: its own first cell
		{"oabc", 1, "O=bc", "", 1}, {"oab.", 3, "Oab=", "Oab=", 1}, {"oab.", 2, "Oa=.", "Oa=b", 1}, {"pan..", 3, "paN=.", "paN=.", 3}, {"pan..", 4, "paN.=", "paN.=", 3}, {"o.", 1, "O=", "O=", 1}, {"o/a/.", 2, "O/a/=", "O/a/=", 1},
		// around the screen's end: the next field is ahead, the field goes on around it, it begins at the end
		{"pa.n.o.", 6, "pa.n.O=", "pa.n.O=", 4}, {"a.pbo.n1", 0, "=.pbo.N1", "=apbo.N1", 5}, {"a.pbo.n1", 7, "a.pbo.N=", "1apbo.N=", 5}, {"a.pbo", 0, "=.pbO", "=apbO", 0}, {"a.pbo", 1, "a=pbO", "a=pbO", 0}, {"a.bo", 1, "a=bO", "a=bO", 0}, {"ab/po/.c", 1, "a=/pO/.c", "", 4}, {"ab.n", 2, "ab=N", "ab=N", 0}, {"o.ao", 1, "O=ao", "O=ao", 1},
		// Numeric fields take it, among digits and others
		{"n12", 1, "N=2", "", 1}, {"n1.", 1, "N=.", "N=1", 1}, {"N.a", 2, "N.=", "", 1}, {"n-=.", 2, "N-=.", "N-==", 1},
		// no field: 0
		{"a", 0, "=", "", 0}, {".", 0, "=", "=", 0}, {"abc", 1, "a=c", "", 0}, {"ab.", 1, "a=.", "a=b", 0}, {"ab/.d", 1, "a=/.d", "a=/bd", 0}, {"ab/cd", 3, "ab/c=", "", 0}, {"a/b/.", 2, "a/b/=", "a/b/=", 0}, {"=-.", 0, "=-.", "==-", 0},
	} {
		checkLetter(t, api.KeyDup, x.picture, x.cursor, x.put, x.in, x.to)
	}
}

// P17.1: Mark, written out, with and without Insert: ByteFM is typed as a letter is, and the cursor goes on as behind one.
func TestMark(t *testing.T) {
	for _, x := range []struct {
		picture string
		cursor  int
		put, in string
		to      int
	}{
		{"oab.nc.", 1, "O-b.nc.", "O-abnc.", 2}, {"oa.nc.", 2, "Oa-nc.", "Oa-nc.", 4}, {"oabnc.", 2, "Oa-nc.", "", 4}, {"oa.pbnc.", 2, "Oa-pbnc.", "Oa-pbnc.", 4}, {"oa.qbnc.", 2, "Oa-qbnc.", "Oa-qbnc.", 6}, {"oab", 2, "Oa-", "", 1}, {"a.pbo", 1, "a-pbO", "a-pbO", 3}, {"1apbN.", 5, "1apbN-", "1apbN-", 0}, {"o.n", 1, "O-n", "O-n", 0},
		{"n1.", 1, "N-.", "N-1", 2}, {"n12", 2, "N1-", "", 1}, {"N=.", 1, "N-.", "N-=", 2}, {"o/./a", 1, "O/-/a", "O/-/a", 2},
		{".", 0, "-", "-", 0}, {"ab.", 1, "a-.", "a-b", 2}, {"ab/c.", 3, "ab/c-", "ab/c-", 0}, {"abc", 1, "a-c", "", 2},
	} {
		checkLetter(t, api.KeyMark, x.picture, x.cursor, x.put, x.in, x.to)
	}
}

// P17.1: Dup and Mark in a field of each attribute: open ones take them, Numeric ones too, and are Modified, and nothing else about them changes.
func TestLettersInEachAttribute(t *testing.T) {
	for _, a := range attrs() {
		for _, x := range []struct {
			kind int
			want string
			to   int
		}{{api.KeyDup, "abo=.nc", 6}, {api.KeyMark, "abo-.nc", 4}} {
			s, want := drawn("abo..nc", 3), drawn(x.want, x.to)
			var code api.Errno
			if a.Protected {
				want, code = flagged(grid.Copy(s), 1), api.ErrGuard
			}
			s.Cells[2].Attr, want.Cells[2].Attr = a, a
			want.Cells[2].Attr.Modified = a.Modified || !a.Protected
			checkPressed(t, s, api.Key{Kind: x.kind}, want, false, code)
		}
	}
}

// P17.1: Dup's cursor is Next of the screen behind it, wherever fields of each attribute come next.
func TestDupAheadOfEachAttribute(t *testing.T) {
	for _, a := range attrs() {
		s, want := drawn("oa.obpc", 1), drawn("O=.obpc", 4)
		s.Cells[3].Attr, want.Cells[3].Attr = a, a
		if a.Protected {
			want.Cursor = 1
		}
		checkPressed(t, s, api.Key{Kind: api.KeyDup}, want, false, 0)
	}
}

// P17.1: Dup goes through all open fields with cells, one by one, and around.
func TestDupMany(t *testing.T) {
	s := drawn("o..qbn.po.noab", 1)
	for _, to := range []int{6, 9, 12, 1, 6} {
		s, _, _ = keys.Do(s, api.Key{Kind: api.KeyDup})
		if s.Cursor != to {
			t.Fatalf("%v: not at %d", s, to)
		}
	}
	if !grid.Same(s, drawn("O=.qbN=pO=nO=b", 6)) {
		t.Error(s)
	}
}
