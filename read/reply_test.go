package read_test

import (
	"encoding/hex"
	"math"
	"slices"
	"strings"
	"testing"

	"shutter/api"
)

// hexed is the bytes that are written there, two digits each.
func hexed(digits string) []byte {
	b, err := hex.DecodeString(strings.ReplaceAll(digits, " ", ""))
	if err != nil {
		panic(err)
	}
	return b
}

// P18.2: Reply of CmdMod, written out: the bytes of what is modified.
func TestReplyOfMod(t *testing.T) {
	for _, x := range []struct {
		picture string
		cursor  int
		aid     byte
		bytes   string
	}{
		{"...", 0, 0x7d, "7d 40 40"}, {"...", 2, 0x7d, "7d 40 c2"}, {"a.b", 1, 0xf3, "f3 40 c1 c1 c2"}, {"oab", 2, 0x7d, "7d 40 c2"}, {"Oab", 2, 0x7d, "7d 40 c2 11 40 c1 c1 c2"}, {"Oa.PbQ", 5, 0x7c, "7c 40 c5 11 40 c1 c1 11 40 c4 c2 11 40 40"},
		{"abO", 0, 0x7a, "7a 40 40 11 40 40 c1 c2"}, {"OO", 1, 0x7d, "7d 40 c1 11 40 c1 11 40 40"}, {"O=-_", 0, 0xf1, "f1 40 40 11 40 c1 1c 1e 40"},
		{"Oab", 2, 0x6d, "6d"}, {"abc", 2, 0x6c, "6c"}, {"...", 1, 0x6e, "6e"}, {"O", 0, 0x6b, "6b"},
	} {
		for n := range 4 {
			checkReply(t, flagged(drawn(x.picture, x.cursor), n), api.CmdMod, x.aid, hexed(x.bytes), 0)
		}
	}
	wide := filled(shape{1, 4097}, ".") // its addresses are written long
	wide.Cells[300], wide.Cells[4096], wide.Cells[0].Char, wide.Cursor = cellOf('O'), cellOf('Q'), 0xc9, 4096
	checkReply(t, wide, api.CmdMod, 0x7d, hexed("7d 10 00 11 01 2d 11 00 00 c9"), 0)
}

// P18.2: Reply of CmdRead, written out: the bytes of a write with the image, without anything besides, whatever the other number.
func TestReplyOfRead(t *testing.T) {
	for _, x := range []struct {
		picture string
		cursor  int
		bytes   string
	}{
		{".", 0, "f1 40 11 40 40 00 13"}, {"...", 2, "f1 40 11 40 40 00 00 00 11 40 c2 13"}, {"a.b", 0, "f1 40 11 40 40 c1 00 c2 13"}, {"oab", 1, "f1 40 11 40 40 1d c4 c1 c2 11 40 c1 13"}, {"Oa.PbQ", 0, "f1 40 11 40 40 1d c5 c1 00 1d 6d c2 1d f9 13"},
		{"p/n/=", 2, "f1 40 11 40 40 1d 6c 1d 50 1c 11 40 c2 13"}, {"OO", 1, "f1 40 11 40 40 1d c5 1d c5 11 40 c1 13"},
	} {
		for n := range 4 {
			for aid := range 256 {
				checkReply(t, flagged(drawn(x.picture, x.cursor), n), api.CmdRead, byte(aid), hexed(x.bytes), 0)
			}
		}
	}
	wide := filled(shape{241, 17}, ".")
	wide.Cells[4096], wide.Cursor = cellOf('N'), 4095
	checkReply(t, wide, api.CmdRead, 0, slices.Concat(hexed("f1 40 11 00 00"), make([]byte, 4096), hexed("1d d1 11 0f ff 13")), 0)
}

// P18.2: Reply of both commands, on every small screen and on screens of many kinds, the cursor at each cell, Locked and not, with Insert and without, against the document's words.
func TestReplyOfEveryScreen(t *testing.T) {
	everyDesk(func(s api.Screen) {
		for _, cmd := range []int{0xf2, 0xf6, 0xf1} {
			for _, aid := range few {
				want, code := replied(s, cmd, aid)
				checkReply(t, s, cmd, aid, want, code)
			}
		}
	})
}

// P18.2: Reply of CmdMod with every byte as key: what Modified answers, its ErrByte among it, alone and with no bytes.
func TestReplyOfEveryByte(t *testing.T) {
	for i, picture := range pictures {
		for aid := range 256 {
			s := drawn(picture, 0)
			s.Cursor = (i + aid) % len(s.Cells)
			want, code := replied(s, api.CmdMod, byte(aid))
			checkReply(t, s, api.CmdMod, byte(aid), want, code)
			if asks := slices.Contains(bares, byte(aid)) || slices.Contains(tellers, byte(aid)); asks != (code == 0) || !asks && code != api.ErrByte {
				t.Fatalf("%x: %d", aid, code)
			}
		}
	}
}

// P18.2: Reply of numbers that are no command that reads, each of them, with each sort of key: ErrOrder, also where the key doesn't ask.
func TestReplyOfOtherCommands(t *testing.T) {
	list := slices.Clone(strange)
	for n := -300; n <= 600; n++ {
		if n != api.CmdRead && n != api.CmdMod {
			list = append(list, n)
		}
	}
	for _, cmd := range list {
		for _, picture := range []string{".", "a.b", "Oab", "P"} {
			for _, aid := range few {
				checkReply(t, drawn(picture, 0), cmd, aid, nil, api.ErrOrder)
			}
		}
	}
}

// P18.2: Reply of great screens, of which most have too many bytes: ErrLong, alone and with no bytes, or the bytes.
func TestReplyOfGreatScreens(t *testing.T) {
	seen := map[api.Errno]int{}
	everyGreat(func(s api.Screen) {
		for _, x := range []struct {
			cmd int
			aid byte
		}{{api.CmdRead, 0x60}, {api.CmdMod, 0x7d}, {api.CmdMod, 0x6d}} {
			want, code := replied(s, x.cmd, x.aid)
			checkReply(t, s, x.cmd, x.aid, want, code)
			seen[code]++
		}
	})
	if len(seen) != 2 || seen[0] < 100 || seen[api.ErrLong] < 100 {
		t.Error(seen)
	}
}

// tail is a screen of one row of so many cells, with Char 0 in the others, and the picture laid on the first n again and again.
func tail(cells, n int, picture string) api.Screen {
	s := filled(shape{1, cells}, ".")
	for i := range n {
		s.Cells[i] = cellOf(picture[i%len(picture)])
	}
	return s
}

// checkLong holds Reply against ErrLong, or so many bytes.
func checkLong(t *testing.T, s api.Screen, cmd int, aid byte, count int) {
	t.Helper()
	want, code := replied(s, cmd, aid)
	if long := count > longest; long != (code == api.ErrLong) || !long && (code != 0 || len(want) != count) {
		t.Fatalf("%v: %d bytes, %d, not %d", brief(s), len(want), code, count)
	}
	checkReply(t, s, cmd, aid, want, code)
}

// P18.2: CmdMod of as many bytes as there may be, and of one more: ErrLong; counted by the document's words.
func TestReplyOfModThatIsLong(t *testing.T) {
	for _, cells := range []int{8200, most} {
		for n := 8180; n <= 8195; n++ {
			checkLong(t, tail(cells, n, "a"), api.CmdMod, 0x7d, 3+n) // letters of no field
			s := tail(cells, n+1, "a")
			s.Cells[0] = cellOf('O') // letters in one field
			checkLong(t, s, api.CmdMod, 0x7d, 3+3+n)
			s.Cells[0] = cellOf('o') // as many, that aren't Modified
			checkLong(t, s, api.CmdMod, 0x7d, 3)
		}
	}
	for n := 6815; n <= 6835; n++ {
		checkLong(t, tail(8200, n, "Oaaaaaaaaa"), api.CmdMod, 0xf4, 3+n+2*((n+9)/10)) // fields of nine letters
	}
	for n := 2720; n <= 2740; n++ {
		checkLong(t, filled(shape{1, n}, "O"), api.CmdMod, 0x7d, 3+3*n) // fields alone
		for letters := range 4 {
			s := tail(n+letters, n, "O")
			for i := range letters {
				s.Cells[n+i] = cellOf('a')
			}
			checkLong(t, s, api.CmdMod, 0x7c, 3+3*n+letters)
			checkLong(t, s, api.CmdMod, 0x6e, 1) // a bare key tells none of it
		}
	}
	checkReply(t, tail(most, 8189, "a"), api.CmdMod, 0x7d, slices.Concat(hexed("7d 00 00"), slices.Repeat([]byte{0xc1}, 8189)), 0)
	checkReply(t, tail(most, 8190, "a"), api.CmdMod, 0x7d, nil, api.ErrLong)
}

// P18.2: CmdRead of as many bytes as there may be, and of one more: ErrLong; the cursor's order counts, where there is one.
func TestReplyOfReadThatIsLong(t *testing.T) {
	for cells := 8175; cells <= 8195; cells++ {
		for _, picture := range []string{"a", "."} {
			s := filled(shape{1, cells}, picture)
			checkLong(t, s, api.CmdRead, 0x7d, 2+3+cells+1)
			for _, s.Cursor = range []int{1, cells - 1} {
				checkLong(t, s, api.CmdRead, 0, 2+3+cells+3+1)
			}
			s.Cells[cells/2] = cellOf('o')
			checkLong(t, s, api.CmdRead, 0x60, 2+3+cells+1+3+1)
		}
	}
	for cells := 4085; cells <= 4100; cells++ {
		s := filled(shape{cells, 1}, "Opq")
		checkLong(t, s, api.CmdRead, 0x7d, 2+3+2*cells+1)
		s.Cursor = cells / 2
		checkLong(t, s, api.CmdRead, 0x7d, 2+3+2*cells+3+1)
		s.Cells[3] = cellOf('a')
		checkLong(t, s, api.CmdRead, 0x7d, 2+3+2*cells-1+3+1)
	}
	checkReply(t, filled(shape{1, 8186}, "."), api.CmdRead, 0, slices.Concat(hexed("f1 40 11 00 00"), make([]byte, 8186), hexed("13")), 0)
	checkReply(t, filled(shape{1, 8187}, "."), api.CmdRead, 0, nil, api.ErrLong)
}

// P18.2: where two errors hold at once, the first one is told: of a command that doesn't read ErrOrder; of a key that doesn't ask ErrByte, ahead of chapter 9's ErrLong; of CmdRead the key says nothing. Each command is counted by its own bytes.
func TestReplyOfTwoErrors(t *testing.T) {
	long, fields, empty := tail(most, most, "a"), filled(shape{1, 2730}, "O"), filled(shape{127, 129}, ".")
	for aid := range 256 {
		if slices.Contains(bares, byte(aid)) || slices.Contains(tellers, byte(aid)) {
			continue
		}
		checkReply(t, long, api.CmdMod, byte(aid), nil, api.ErrByte)
		checkReply(t, fields, api.CmdMod, byte(aid), nil, api.ErrByte)
		checkReply(t, long, api.CmdRead, byte(aid), nil, api.ErrLong)
	}
	for _, cmd := range []int{api.CmdWrite, api.CmdErase, api.CmdClean, 0, -1, math.MaxInt, math.MinInt, half + api.CmdMod, half + api.CmdRead} {
		for _, aid := range few {
			for _, s := range []api.Screen{long, fields, empty} {
				checkReply(t, s, cmd, aid, nil, api.ErrOrder)
			}
		}
	}
	checkReply(t, fields, api.CmdMod, 0x7d, nil, api.ErrLong)
	checkLong(t, fields, api.CmdRead, 0x7d, 2+3+2*2730+1)
	checkReply(t, empty, api.CmdMod, 0x7d, hexed("7d 00 00"), 0)
	checkReply(t, empty, api.CmdRead, 0x7d, nil, api.ErrLong)
	for _, aid := range bares {
		checkReply(t, long, api.CmdMod, aid, []byte{aid}, 0)
	}
}
