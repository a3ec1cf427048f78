package read_test

import (
	"testing"

	"shutter/api"
)

// P18.1: Image, written out: Set of 0, Starts, Texts as long as characters stand side by side, the characters 0 among them, Set of the cursor, if it isn't 0, and Cursor.
func TestImage(t *testing.T) {
	for _, x := range []struct {
		picture string
		cursor  int
		orders  string
	}{
		// of one cell
		{"a", 0, "@0 a !"}, {".", 0, "@0 . !"}, {"O", 0, "@0 +O !"}, {"q", 0, "@0 +q !"},
		// without fields: one Text
		{"...", 0, "@0 ... !"}, {"...", 1, "@0 ... @1 !"}, {"...", 2, "@0 ... @2 !"}, {"abc", 0, "@0 abc !"}, {"a.b.c", 4, "@0 a.b.c @4 !"}, {"ab/.c", 2, "@0 ab.c @2 !"}, {"a/b/c", 1, "@0 abc @1 !"}, {"=_-^", 0, "@0 =_-^ !"}, {"a..", 0, "@0 a.. !"}, {"..a", 0, "@0 ..a !"},
		// fields between characters, at the beginning, at the end
		{"oab", 0, "@0 +o ab !"}, {"oab", 1, "@0 +o ab @1 !"}, {"abO", 2, "@0 ab +O @2 !"}, {"aPb", 1, "@0 a +P b @1 !"}, {"oa.Nb.", 5, "@0 +o a. +N b. @5 !"}, {"a.Qb", 0, "@0 a. +Q b !"}, {"ab/Oc/.d", 4, "@0 ab +O c.d @4 !"}, {"a/N/1", 0, "@0 a +N 1 !"},
		// without cells, side by side, also around the end, and fields alone
		{"oOa", 0, "@0 +o +O a !"}, {"aPp", 0, "@0 a +P +p !"}, {"nab.OQ", 3, "@0 +n ab. +O +Q @3 !"}, {"OoNnPpQq", 7, "@0 +O +o +N +n +P +p +Q +q @7 !"}, {"OO", 1, "@0 +O +O @1 !"}, {"P/P/P", 0, "@0 +P +P +P !"}, {"OaOOb", 4, "@0 +O a +O +O b @4 !"},
	} {
		for n := range 4 {
			checkImage(t, flagged(drawn(x.picture, x.cursor), n), ordersOf(x.orders))
		}
	}
}

// P18.1: Image of every small screen, and of screens of many kinds, the cursor at each cell, Locked and not, with Insert and without, against the document's words.
func TestImageOfEveryScreen(t *testing.T) {
	everyDesk(func(s api.Screen) { checkImage(t, s, pictured(s)) })
}

// P18.1: Image of great screens: of one Text, of Starts alone, and of many of both.
func TestImageOfGreatScreens(t *testing.T) {
	everyGreat(func(s api.Screen) { checkImage(t, s, pictured(s)) })
}

// P18.1: a field of each attribute is a Start of it.
func TestImageOfEachAttribute(t *testing.T) {
	for _, a := range attrs() {
		s := drawn("a.nb", 3)
		s.Cells[2].Attr = a
		want := ordersOf("@0 a. +n b @3 !")
		want[2].Attr = a
		checkImage(t, s, want)
	}
}

// P18.1: an image has nothing of a screen but its cells and its cursor: neither rows and columns, nor Locked, nor Insert.
func TestImageOfCellsAlone(t *testing.T) {
	for _, picture := range []string{"abcdef", "abc/def", "ab/cd/ef", "a/b/c/d/e/f"} {
		for n := range 4 {
			checkImage(t, flagged(drawn(picture, 5), n), ordersOf("@0 abcdef @5 !"))
		}
	}
}
