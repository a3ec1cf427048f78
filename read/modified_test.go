package read_test

import (
	"slices"
	"testing"

	"shutter/api"
)

// checkFields holds Modified of a picture, by each key that asks, against these fields.
func checkFields(t *testing.T, picture string, fields string) {
	t.Helper()
	for cursor := range drawn(picture, 0).Cells {
		for n := range 4 {
			s := flagged(drawn(picture, cursor), n)
			for _, aid := range tellers {
				checkModified(t, s, aid, api.In{Aid: aid, Cursor: cursor, Fields: told(fields)}, 0)
			}
			for _, aid := range bares {
				checkModified(t, s, aid, api.In{Aid: aid}, 0)
			}
		}
	}
}

// P18.1: Modified, written out, of formatted screens: the fields that are Modified, rising as they begin, each by its first cell's number, with its letters in order; the cursor at each cell, Locked and not, with Insert and without.
func TestModifiedFields(t *testing.T) {
	for _, x := range []struct{ picture, fields string }{
		// one, many, all and none are Modified
		{"Oabc", "1:abc"}, {"oabc", ""}, {"oaOb", "3:b"}, {"Oaob", "1:a"}, {"OaOb", "1:a 3:b"}, {"oanbocnd", ""}, {"OaNbOcNd", "1:a 3:b 5:c 7:d"}, {"oaNboc", "3:b"}, {"OanbOc", "1:a 5:c"},
		// open and protected ones, Numeric and not
		{"OaNbPcQd", "1:a 3:b 5:c 7:d"}, {"oaNbpcQd", "3:b 7:d"}, {"PaPb", "1:a 3:b"}, {"pqoN1", "4:1"}, {"Qabc", "1:abc"},
		// with letters, with characters 0 among them, and without letters
		{"Oa.b", "1:ab"}, {"O.a.", "1:a"}, {"O..ab", "1:ab"}, {"Oab..", "1:ab"}, {"O.", "1:"}, {"O...", "1:"}, {"O..o.a", "1:"}, {"Oa.O.", "1:a 4:"}, {"Oc.aO..b", "1:ca 5:b"},
		// each sort of letter
		{"O=-.N-=.P=-", "1:=- 5:-= 9:=-"}, {"O_.^", "1:_^"}, {"N0.9a", "1:09a"}, {"O_", "1:_"}, {"O___", "1:___"}, {"Oaaa", "1:aaa"},
		// around the screen's end
		{"aO", "0:a"}, {"abO", "0:ab"}, {"abOc", "3:cab"}, {".aOb.", "3:ba"}, {"cdOabPe", "3:ab 6:ecd"}, {"aboefPc", "6:cab"}, {"abPcdo", "3:cd"}, {"ab/.c/Od", "5:dabc"}, {"..O", "0:"}, {"a.O.", "3:a"},
		// without cells: side by side, around the end, and a screen of fields alone
		{"Ooa", "1:"}, {"oOa", "2:a"}, {"OOa", "1: 2:a"}, {"oaO", "0:"}, {"OaO", "1:a 0:"}, {"OOaOO", "1: 2:a 4: 0:"}, {"oaOO", "3: 0:"}, {"aOOO", "2: 3: 0:a"}, {"oaOpO", "3: 0:"}, {"OPNQ", "1: 2: 3: 0:"}, {"opnq", ""}, {"oPnQ", "2: 0:"}, {"Oo", "1:"}, {"oO", "0:"}, {"OO", "1: 0:"}, {"O", "0:"}, {"o", ""}, {"Q", "0:"}, {"p", ""},
		// of some rows, and of one column
		{"Oab/Pc./Nde", "1:ab 4:c 7:de"}, {"o.q/Pb./Nca", "4:b 7:ca"}, {"O/a/./b", "1:ab"}, {"a/O/b", "2:ba"}, {"O/P/N", "1: 2: 0:"}, {"a/b/Q", "0:ab"}, {"abO/cd./e.O", "3:cde 0:ab"},
	} {
		checkFields(t, x.picture, x.fields)
	}
}

// P18.1: Modified, written out, of screens that aren't formatted: all letters in order as the one field with Addr -1, or no field, where there is no letter.
func TestModifiedWithoutFields(t *testing.T) {
	for _, x := range []struct{ picture, fields string }{
		{"a", "-1:a"}, {".", ""}, {"..", ""}, {"...", ""}, {".../...", ""}, {"././.", ""}, {"abc", "-1:abc"}, {"a.b.c", "-1:abc"}, {".a.", "-1:a"}, {"..a", "-1:a"}, {"a..", "-1:a"}, {"cba", "-1:cba"},
		{"abc/.d./e.f", "-1:abcdef"}, {".../..a", "-1:a"}, {"a/b/c", "-1:abc"}, {"././c", "-1:c"}, {"=.-", "-1:=-"}, {"-", "-1:-"}, {"=", "-1:="}, {"_", "-1:_"}, {"^", "-1:^"}, {"_.^0", "-1:_^0"}, {"aaa", "-1:aaa"}, {"___", "-1:___"},
	} {
		checkFields(t, x.picture, x.fields)
	}
}

// P18.1: the document's example: of an empty screen that isn't formatted, AidEnter, no fields.
func TestModifiedOfAnEmptyScreen(t *testing.T) {
	for _, x := range slices.Concat(smalls, great) {
		s := filled(x, ".")
		for _, s.Cursor = range []int{0, len(s.Cells) / 2, len(s.Cells) - 1} {
			checkModified(t, s, api.AidEnter, api.In{Aid: 0x7d, Cursor: s.Cursor}, 0)
		}
	}
}

// P18.1: every byte as key, on screens of many kinds: bare ones tell nothing but themselves, others that ask all, and such as don't are ErrByte.
func TestModifiedOfEveryByte(t *testing.T) {
	seen := [3]int{}
	for aid := range 256 {
		for i, picture := range pictures {
			for cursor := range drawn(picture, 0).Cells {
				s := flagged(drawn(picture, cursor), (i+aid)%4)
				want, code := submitted(s, byte(aid))
				checkModified(t, s, byte(aid), want, code)
			}
		}
		switch {
		case slices.Contains(bares, byte(aid)):
			seen[0]++
		case slices.Contains(tellers, byte(aid)):
			seen[1]++
		default:
			seen[2]++
		}
	}
	if seen != [3]int{4, 13, 239} {
		t.Error(seen)
	}
}

// P18.1: Modified of every small screen, and of screens of many kinds, the cursor at each cell, Locked and not, with Insert and without, against the document's words.
func TestModifiedOfEveryScreen(t *testing.T) {
	everyDesk(func(s api.Screen) {
		for _, aid := range few {
			want, code := submitted(s, aid)
			checkModified(t, s, aid, want, code)
		}
	})
}

// P18.1: Modified of great screens, of as many letters and fields as there may be.
func TestModifiedOfGreatScreens(t *testing.T) {
	everyGreat(func(s api.Screen) {
		for _, aid := range []byte{0x7d, 0x6d, 0x60} {
			want, code := submitted(s, aid)
			checkModified(t, s, aid, want, code)
		}
	})
}

// P18.1: a field of each attribute is told, if it is Modified, whatever else it is.
func TestModifiedOfEachAttribute(t *testing.T) {
	for _, a := range attrs() {
		for _, x := range []struct{ picture, with, without string }{
			{"oab", "1:ab", ""}, {"aOboc", "2:b 4:ca", "2:b"}, {"oOc", "1: 2:c", "2:c"}, {"oaOb.", "1:a 3:b", "3:b"},
		} {
			s := drawn(x.picture, 1)
			for i := len(s.Cells) - 1; i >= 0; i-- {
				if s.Cells[i] == cellOf('o') {
					s.Cells[i].Attr = a
					break
				}
			}
			fields := x.without
			if a.Modified {
				fields = x.with
			}
			checkModified(t, s, 0x7a, api.In{Aid: 0x7a, Cursor: 1, Fields: told(fields)}, 0)
		}
	}
}

// P18.1: every character in a field and on a screen without fields: all but 0 are letters, each as it is.
func TestModifiedOfEachCharacter(t *testing.T) {
	for c := range 256 {
		char := byte(c)
		if char != 0 && char != 0x1c && char != 0x1e && (char < 0x40 || char > 0xfe) {
			continue // no character: no right screen has it
		}
		text := []byte{0xc1, char, 0xc2}
		if char == 0 {
			text = []byte{0xc1, 0xc2}
		}
		plain, form := drawn("a.b", 1), drawn("Oa.bo", 4)
		plain.Cells[1].Char, form.Cells[2].Char = char, char
		checkModified(t, plain, 0xf9, api.In{Aid: 0xf9, Cursor: 1, Fields: []api.Entry{{Addr: -1, Text: text}}}, 0)
		checkModified(t, form, 0x7b, api.In{Aid: 0x7b, Cursor: 4, Fields: []api.Entry{{Addr: 1, Text: text}}}, 0)
	}
}
