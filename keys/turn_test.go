package keys_test

import (
	"slices"
	"testing"

	"shutter/api"
	"shutter/attr"
	"shutter/grid"
	"shutter/keys"
)

// P17.1: Insert on a screen that isn't Locked: Insert is on then, be it on already or not, and nothing else changes.
func TestInsert(t *testing.T) {
	everyScreen(func(s api.Screen) {
		for s.Cursor = range s.Cells {
			for _, c := range []byte{0, 0xc1, 0x6d, 0x7d} {
				key := api.Key{Kind: api.KeyInsert, Char: c}
				checkPressed(t, flagged(s, 0), key, flagged(s, 2), false, 0)
				checkPressed(t, flagged(s, 2), key, flagged(s, 2), false, 0)
			}
		}
	})
}

// P17.1: Reset, on Locked screens and others, with Insert and without: it is neither Locked nor with Insert then, and nothing else changes.
func TestReset(t *testing.T) {
	everyScreen(func(s api.Screen) {
		for s.Cursor = range s.Cells {
			for n := range 4 {
				for _, c := range []byte{0, 0xc1, 0x6d, 0x7d} {
					checkPressed(t, flagged(s, n), api.Key{Kind: api.KeyReset, Char: c}, s, false, 0)
				}
			}
		}
	})
}

// P17.1: Insert and Reset on great screens.
func TestTurnsOnGreatScreens(t *testing.T) {
	for _, x := range great {
		for n := range 4 {
			s := filled(x, "Oa.q")
			s.Cursor = x.rows*x.cols - 1
			checkPressed(t, flagged(s, n), api.Key{Kind: api.KeyReset}, s, false, 0)
			checkPressed(t, flagged(s, n&2), api.Key{Kind: api.KeyInsert}, flagged(s, 2), false, 0)
			checkPressed(t, flagged(s, n&2), api.Key{Kind: api.KeyAid, Char: api.AidClear}, flagged(filled(x, "."), 1), true, 0)
			checkPressed(t, flagged(s, n&2), api.Key{Kind: api.KeyAid, Char: api.AidPa2}, flagged(s, 1), true, 0)
		}
	}
}

// P17.1: the document's example: Aid with AidEnter: Locked, and it asks.
func TestEnter(t *testing.T) {
	s := drawn("Oa.", 2)
	checkPressed(t, s, api.Key{Kind: api.KeyAid, Char: api.AidEnter}, flagged(s, 1), true, 0)
}

// P17.1: Aid with each byte: with each key that asks the screen is Locked, Insert is off, and the key asks; all else is as it was, but behind AidClear. Other bytes are ErrByte.
func TestAid(t *testing.T) {
	count := 0
	for c := range 256 {
		key := api.Key{Kind: api.KeyAid, Char: byte(c)}
		for _, picture := range pictures {
			for cursor := range drawn(picture, 0).Cells {
				for n := 0; n < 4; n += 2 {
					s := drawn(picture, cursor)
					want := flagged(s, 1)
					if c == api.AidClear {
						want = flagged(filled(shape{s.Rows, s.Cols}, "."), 1)
					}
					if slices.Contains(asking, byte(c)) {
						checkPressed(t, flagged(s, n), key, want, true, 0)
						count++
						continue
					}
					checkPressed(t, flagged(s, n), key, flagged(s, n), false, api.ErrByte)
				}
			}
		}
		if attr.Aid(byte(c)) != slices.Contains(asking, byte(c)) {
			t.Errorf("%02x", c)
		}
	}
	if count == 0 || len(asking) != 17 {
		t.Errorf("%d asked, of %d keys", count, len(asking))
	}
}

// P17.1: AidClear, written out: each cell has the character 0, there is no field, and the cursor is at 0.
func TestClear(t *testing.T) {
	for _, x := range []struct{ picture, want string }{
		{"a", "."}, {".", "."}, {"o", "."}, {"Q", "."}, {"abc", "..."}, {"Oa.", "..."}, {"pab", "..."}, {"ab/Qc/N1", "../../.."}, {"P/a/O", "././."}, {"a.PoN=", "......"}, {"pq/on", "../.."},
	} {
		for cursor := range drawn(x.picture, 0).Cells {
			for n := 0; n < 4; n += 2 {
				checkPressed(t, flagged(drawn(x.picture, cursor), n), api.Key{Kind: api.KeyAid, Char: api.AidClear}, flagged(drawn(x.want, 0), 1), true, 0)
			}
		}
	}
}

// P17.1: AidClear takes away each attribute and each character.
func TestClearOfEach(t *testing.T) {
	key := api.Key{Kind: api.KeyAid, Char: api.AidClear}
	for _, a := range attrs() {
		s := drawn("aob", 2)
		s.Cells[1].Attr = a
		checkPressed(t, s, key, flagged(drawn("...", 0), 1), true, 0)
	}
	for c := range 256 {
		s := drawn("aPb", 2)
		s.Cells[2].Char = byte(c)
		if grid.Right(s) {
			checkPressed(t, s, key, flagged(drawn("...", 0), 1), true, 0)
		}
	}
}

// P17.1: behind a key that asks the screen is Locked, till Reset: another one is ErrLocked, and so is Insert; behind Reset it is as it was, but for Insert.
func TestBehindAid(t *testing.T) {
	for _, picture := range pictures {
		for _, c := range asking {
			key := api.Key{Kind: api.KeyAid, Char: c}
			s, asks, err := keys.Do(flagged(drawn(picture, 0), 2), key)
			if !asks || err != nil {
				t.Fatalf("%s, %02x: %t, %v", picture, c, asks, err)
			}
			checkPressed(t, s, key, s, false, api.ErrLocked)
			checkPressed(t, s, api.Key{Kind: api.KeyInsert}, s, false, api.ErrLocked)
			checkPressed(t, s, api.Key{Kind: api.KeyTab}, s, false, api.ErrLocked)
			checkPressed(t, s, api.Key{Kind: api.KeyReset}, flagged(s, 0), false, 0)
		}
	}
}

// P17.1: the document's examples of the whole that are the keyboard's: a letter on a protected cell, Reset, two letters and Enter, Enter twice, a letter in a numeric field, Insert without an empty cell.
func TestExamplesOfTheWhole(t *testing.T) {
	s := drawn("paoabn..", 0)
	for _, x := range []struct {
		kind   int
		char   byte
		want   string
		cursor int
		flags  int
		asks   bool
		code   api.Errno
	}{
		{api.KeyType, 0xc1, "paoabn..", 0, 1, false, api.ErrGuard}, {api.KeyType, 0xc1, "paoabn..", 0, 1, false, api.ErrLocked}, {api.KeyReset, 0, "paoabn..", 0, 0, false, 0},
		{api.KeyTab, 0, "paoabn..", 3, 0, false, 0}, {api.KeyType, 0xc3, "paOcbn..", 4, 0, false, 0}, {api.KeyType, 0xc4, "paOcdn..", 6, 0, false, 0},
		{api.KeyAid, api.AidEnter, "paOcdn..", 6, 1, true, 0}, {api.KeyAid, api.AidEnter, "paOcdn..", 6, 1, false, api.ErrLocked}, {api.KeyReset, 0, "paOcdn..", 6, 0, false, 0},
		{api.KeyType, 0xc5, "paOcdn..", 6, 1, false, api.ErrDigit}, {api.KeyReset, 0, "paOcdn..", 6, 0, false, 0},
		{api.KeyInsert, 0, "paOcdn..", 6, 2, false, 0}, {api.KeyHome, 0, "paOcdn..", 3, 2, false, 0}, {api.KeyDup, 0, "paOcdn..", 3, 3, false, api.ErrFull}, {api.KeyReset, 0, "paOcdn..", 3, 0, false, 0},
		{api.KeyDup, 0, "paO=dn..", 6, 0, false, 0}, {api.KeyMark, 0, "paO=dN-.", 7, 0, false, 0}, {api.KeyAid, api.AidClear, "........", 0, 1, true, 0},
	} {
		want := flagged(drawn(x.want, x.cursor), x.flags)
		checkPressed(t, s, api.Key{Kind: x.kind, Char: x.char}, want, x.asks, x.code)
		s = want
	}
}
