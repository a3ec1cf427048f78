package edit_test

import (
	"slices"
	"testing"

	"shutter/api"
	"shutter/edit"
	"shutter/grid"
)

// key is a letter that is typed, the picture and cursor ahead of it, and those behind it.
type key struct {
	picture string
	cursor  int
	letter  byte // of a picture
	want    string
	to      int
}

// checkKeys holds Type, with Insert or without, against what is written out; Insert stays, and the screen isn't Locked.
func checkKeys(t *testing.T, insert bool, list []key) {
	t.Helper()
	for _, x := range list {
		s, want := drawn(x.picture, x.cursor), drawn(x.want, x.to)
		s.Insert, want.Insert = insert, insert
		checkTyped(t, s, charOf(x.letter), want, 0)
	}
}

// P14.2: the document's example.
func TestTypeOnAnEmptyScreen(t *testing.T) {
	s, err := grid.New(24, 80)
	if err != nil {
		t.Fatal(err)
	}
	got, err := edit.Type(s, 0xc1)
	if err != nil || got.Cells[0] != (api.Cell{Char: 0xc1}) || got.Cursor != 1 || got.Locked {
		t.Errorf("%v (%v)", brief(got), err)
	}
}

// P14.2: without Insert the letter is put at the cursor, whatever stood there; its field is Modified then, and no other one.
func TestTypeOver(t *testing.T) {
	checkKeys(t, false, []key{
		{".", 0, 'b', "b", 0}, {"a", 0, 'b', "b", 0}, {"...", 0, 'b', "b..", 1}, {"a.c", 1, 'b', "abc", 2}, {"abc", 1, '*', "a*c", 2}, {"abc", 2, 'd', "abd", 0},
		{"o..", 1, 'b', "Ob.", 2}, {"o..", 2, 'b', "O.b", 1}, {"oab.", 1, '*', "O*b.", 2}, {"Oab.", 2, '*', "Oa*.", 3}, {"oa", 1, 'a', "Oa", 1},
		{"..o", 0, 'b', "b.O", 1}, {".o.", 0, 'b', "bO.", 2}, {".o.", 2, 'b', ".Ob", 0}, {"aNb.", 2, '1', "aN1.", 3}, {"an2.", 0, '7', "7N2.", 2},
		{"oap.nb", 1, 'c', "Ocp.nb", 3}, {"OaP.nb", 5, '3', "OaP.N3", 1}, {"oaocod", 3, 'b', "oaObod", 5}, {"oaqcod", 5, 'b', "oaqcOb", 1},
	})
}

// P14.2: the cursor goes on to the next cell, around the screen's end, too, be there a character or not.
func TestCursorGoesOn(t *testing.T) {
	checkKeys(t, false, []key{
		{"....", 0, 'b', "b...", 1}, {".a..", 0, 'b', "ba..", 1}, {"....", 3, 'b', "...b", 0}, {"a...", 3, 'b', "a..b", 0},
		{"o....", 1, 'b', "Ob...", 2}, {"o.a..", 1, 'b', "Oba..", 2}, {"..o..", 4, 'b', "..O.b", 0}, {"a.o..", 3, 'b', "a.Ob.", 4},
	})
}

// P14.2: where a field begins in the next cell, the cursor goes behind it, be that one open or protected, and what stands there a character or a field.
func TestCursorGoesBehindFields(t *testing.T) {
	checkKeys(t, false, []key{
		// to its own field, the screen's only one, around the end
		{"o.", 1, 'b', "Ob", 1}, {".o", 0, 'b', "bO", 0}, {"o..", 2, 'b', "O.b", 1}, {"..o", 1, 'b', ".bO", 0}, {"n.", 1, '1', "N1", 1},
		// to others: open, Numeric, protected, and one whose beginning is another's
		{"o.o.", 1, 'b', "Obo.", 3}, {"o.n.", 1, 'b', "Obn.", 3}, {"o.p.", 1, 'b', "Obp.", 3}, {"o.P.", 1, 'b', "ObP.", 3}, {"o.pn.", 1, 'b', "Obpn.", 3}, {"o.pq.n.", 1, 'b', "Obpq.n.", 3}, {"o.oq.n.", 1, 'b', "Oboq.n.", 3}, {"o.nn.", 1, 'b', "Obnn.", 3},
		// around the end
		{"p.o.", 3, 'b', "p.Ob", 1}, {"n.o.", 3, 'b', "n.Ob", 1}, {".o.p", 2, 'b', ".Obp", 0}, {"o.o.n", 3, 'b', "o.Obn", 0}, {"no.", 2, 'b', "nOb", 1}, {"q.o.p", 3, 'b', "q.Obp", 0},
	})
}

// P14.2: where a Protected and Numeric field begins in the next cell, the cursor goes to the next open field that has cells, around the end, too, up to the one that was typed in.
func TestCursorSkips(t *testing.T) {
	checkKeys(t, false, []key{
		{"o.q.n.", 1, 'b', "Obq.n.", 5}, {"o.Q.O.", 1, 'b', "ObQ.O.", 5}, {"o.qn.", 1, 'b', "Obqn.", 4}, {"o.qq.n.", 1, 'b', "Obqq.n.", 6}, {"o.q.p.o.", 1, 'b', "Obq.p.o.", 7}, {"o.q..p.", 1, 'b', "Obq..p.", 1},
		// past open fields without cells
		{"o.qoon.", 1, 'b', "Obqoon.", 6}, {"o.qnp.o.", 1, 'b', "Obqnp.o.", 7}, {"o.qo", 1, 'b', "Obqo", 1},
		// to its own field, as there is no other one
		{"o.q", 1, 'b', "Obq", 1}, {"o.q.", 1, 'b', "Obq.", 1}, {"q.n.", 3, '1', "q.N1", 3}, {".qo", 0, 'b', "bqO", 0}, {"..q.o", 1, 'b', ".bq.O", 0}, {".q.o.", 0, 'b', "bq.O.", 4}, {"qo.", 2, 'b', "qOb", 2}, {"o..q.p", 2, 'b', "O.bq.p", 1},
		// around the end
		{"n.o.q.", 3, 'b', "n.Obq.", 1}, {".no.q", 3, 'b', ".nObq", 3}, {"q.n.o.", 5, 'b', "q.n.Ob", 3}, {"qp.o.n.", 6, '1', "qp.o.N1", 4}, {"a.o.q.n", 3, 'b', "a.Obq.n", 0},
	})
}

// P14.2: with Insert the line's cells up to the first with the character 0 move on by one: at the cursor, behind it, at the line's end, of a line around the screen's end, too; what lies ahead of the cursor, behind that cell or in other fields stays.
func TestInsert(t *testing.T) {
	checkKeys(t, true, []key{
		// not formatted
		{".", 0, 'd', "d", 0}, {".ab", 0, 'd', "dab", 1}, {"ab.", 0, 'd', "dab", 1}, {"a.b", 0, 'd', "dab", 1}, {"ab.", 1, 'd', "adb", 2}, {"ab.", 2, 'd', "abd", 0}, {"a..b", 0, 'd', "da.b", 1}, {".b.c.", 1, 'd', ".dbc.", 2},
		// at the cursor, behind it, at the line's end
		{"o.ab", 1, 'd', "Odab", 2}, {"oa.b", 1, 'd', "Odab", 2}, {"oab.", 1, 'd', "Odab", 2}, {"oa..", 1, 'd', "Oda.", 2}, {"oabc...", 2, 'd', "Oadbc..", 3}, {"oab.", 2, 'd', "Oadb", 3}, {"oab.", 3, 'd', "Oabd", 1}, {"o.a.b.", 2, 'd', "O.dab.", 3},
		// ahead of another field
		{"oab.p.n.", 1, 'd', "Odabp.n.", 2}, {"oab.q.n.", 3, 'd', "Oabdq.n.", 7}, {"oa.pb", 2, 'd', "Oadpb", 4}, {"n12.o.", 2, '7', "N172o.", 3}, {"Nab..", 1, '7', "N7ab.", 2},
		// around the end
		{"a.oc", 3, 'd', "caOd", 0}, {"a.oc", 0, 'd', "daOc", 1}, {"..oc", 3, 'd', "c.Od", 0}, {"ab.oc", 4, 'd', "cabOd", 0}, {"ab.q.oc", 1, 'd', "adbq.Oc", 2}, {"a.qbod", 1, 'c', "acqbOd", 5}, {"a.qbod", 5, 'c', "daqbOc", 0}, {"a.qbo", 0, 'c', "caqbO", 1}, {"ao.", 2, 'd', "aOd", 0}, {"abo.", 3, 'd', "abOd", 0},
	})
}

// P14.2: each character, but 0, may be typed, and may be what moves.
func TestTypeOfEachByte(t *testing.T) {
	for c := range 256 {
		for _, picture := range pictures {
			last := len(picture) - 1
			for _, cursor := range []int{0, last / 2, last} {
				for n := range 4 {
					checkType(t, flagged(drawn(picture, cursor), n), byte(c))
				}
			}
		}
		if !isLetter(byte(c)) {
			continue
		}
		s, want := flagged(drawn("n1a.", 1), 2), flagged(drawn("N71a", 2), 2)
		s.Cells[1].Char, want.Cells[2].Char = byte(c), byte(c)
		checkTyped(t, s, 0xf7, want, 0)
		s, want = drawn("ob", 1), drawn("Ob", 1)
		want.Cells[1].Char = byte(c)
		checkTyped(t, s, byte(c), want, 0)
	}
}

// P14.2: a digit, a letter and Dup on every small screen, at each cell, with Insert and without, against the document's words.
func TestTypeOnEveryScreen(t *testing.T) {
	everyDesk(func(s api.Screen) {
		for _, c := range []byte{0xf5, 0xc1, 0x1c} {
			checkType(t, s, c)
		}
	})
}

// P14.2: typed in a field of each attribute, and ahead of one of each: behind which alone the cursor skips.
func TestTypeOfEachAttribute(t *testing.T) {
	for _, a := range attrs() {
		for n := range 4 {
			s := flagged(drawn("o.ab.n.", 1), n)
			s.Cells[2] = api.Cell{Field: true, Attr: a}
			want, code := typed(s, 0xc1)
			if code == 0 && want.Cursor != 3 && !(a.Protected && a.Numeric && want.Cursor == 6) {
				t.Fatalf("%v: %v", a, want)
			}
			for _, s.Cursor = range []int{0, 1, 2, 3, 4, 6} {
				checkType(t, s, 0xc1)
				checkType(t, s, 0xf0)
			}
		}
	}
}

// P14.2: on great screens: the first, a middle and the last cell; a line of nearly all cells, full but for its last one.
func TestTypeOnGreatScreens(t *testing.T) {
	for _, x := range great {
		last := x.rows*x.cols - 1
		for i, picture := range []string{"a", ".", "oa.b", "qa.nb", "ab.oc.pd.q"} {
			for _, begin := range []int{none, 0, last / 2, last} {
				s := filled(x, picture)
				if begin != none {
					s.Cells[begin] = cellOf('o')
				}
				s.Cells[(begin+last)%(last+1)] = cellOf([]byte(".aq")[i%3])
				for _, s.Cursor = range []int{0, 1, last / 2, last/2 + 1, last - 1, last} {
					checkType(t, flagged(s, 0), 0xc1)
					checkType(t, flagged(s, 2), 0xf1)
				}
			}
		}
	}
}

// P14.2: a field that is typed full, letter by letter, and the next one, of which one between is skipped; then it begins anew.
func TestTypeMany(t *testing.T) {
	s := drawn("po..q.n...pb", 2)
	for i, x := range []struct {
		letter byte
		want   string
		to     int
	}{
		{'a', "pOa.q.n...pb", 3}, {'b', "pOabq.n...pb", 7}, {'1', "pOabq.N1..pb", 8}, {'2', "pOabq.N12.pb", 9}, {'3', "pOabq.N123pb", 11},
	} {
		var err error
		if s, err = edit.Type(s, charOf(x.letter)); err != nil || !grid.Same(s, drawn(x.want, x.to)) {
			t.Fatalf("%d: %v (%v)", i, s, err)
		}
	}
	refused := drawn("pOabq.N123pb", 11)
	refused.Locked = true
	checkTyped(t, s, charOf('a'), refused, api.ErrGuard)
}

// P14.3: what is typed changes cells of its own open field alone, that is Modified then, and a right screen stays right; what is refused changes whether the screen is Locked alone.
func TestWhatTypingChanges(t *testing.T) {
	everyDesk(func(s api.Screen) {
		for _, c := range []byte{0xf5, 0xc1, 0x1e, 0} {
			got, err := edit.Type(s, c)
			if !grid.Right(got) || got.Rows != s.Rows || got.Cols != s.Cols || got.Insert != s.Insert {
				t.Fatalf("%v, %02x: %v", s, c, got)
			}
			if err != nil {
				got.Locked = false
				if !grid.Same(got, s) {
					t.Fatalf("%v, %02x: %v (%v)", s, c, got, err)
				}
				continue
			}
			line, owner := lineOf(s, s.Cursor), ownerOf(s, s.Cursor)
			if len(line) == 0 || got.Locked || owner != none && !got.Cells[owner].Attr.Modified {
				t.Fatalf("%v, %02x: %v", s, c, got)
			}
			for i, behind := range got.Cells {
				was := s.Cells[i]
				if i == owner {
					was.Attr.Modified = true
				}
				if behind != was && !slices.Contains(line, i) {
					t.Fatalf("%v, %02x: %v: changed at %d", s, c, got, i)
				}
			}
		}
	})
}

// P14.3: many keys of all kinds, one behind the other, on one screen, unlocked now and then: it stays right, and as the document's words tell.
func TestTypeLong(t *testing.T) {
	for _, picture := range pictures {
		s := drawn(picture, 0)
		mix := uint32(len(picture))
		for range 2000 {
			mix = mix*1664525 + 1013904223
			c := []byte{0xc1, 0xf3, 0x60, 0x1c, 0x1e, 0x11, byte(mix >> 24)}[mix>>8%7]
			checkType(t, s, c)
			s, _ = edit.Type(s, c)
			if !grid.Right(s) {
				t.Fatalf("%v: not right", s)
			}
			if mix>>12&1 != 0 {
				s.Locked = false
			}
			if mix>>14&7 == 0 {
				s.Cursor, s.Insert = int(mix>>18)%len(s.Cells), !s.Insert
			}
			if at := int(mix>>20) % len(s.Cells); mix>>16&3 == 0 && !s.Cells[at].Field {
				s.Cells[at].Char = 0
			}
		}
	}
}
