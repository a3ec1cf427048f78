package keys_test

import (
	"errors"
	"slices"
	"testing"

	"shutter/api"
	"shutter/grid"
	"shutter/keys"
)

// checkError holds Do against an error: the screen is as it was, or Locked, if the key is refused there, and the key doesn't ask.
func checkError(t *testing.T, s api.Screen, k api.Key, code api.Errno) {
	t.Helper()
	want := grid.Copy(s)
	want.Locked = s.Locked || code == api.ErrGuard || code == api.ErrDigit || code == api.ErrFull
	checkPressed(t, s, k, want, false, code)
}

// P17.1: of another kind ErrArg, whichever its Char, and the screen as it was, Locked or not: of Locked screens, too, it is named alone.
func TestNoKey(t *testing.T) {
	for _, picture := range pictures {
		for cursor := range drawn(picture, 0).Cells {
			for n := range 4 {
				for _, kind := range strange {
					for _, c := range []byte{0, 0xc1, 0x7d, 0x6d, 0xff} {
						checkError(t, flagged(drawn(picture, cursor), n), api.Key{Kind: kind, Char: c}, api.ErrArg)
					}
				}
			}
		}
	}
}

// P17.1: just the kinds from 1 to 17 are keys.
func TestKinds(t *testing.T) {
	s, count := drawn("oa.", 1), 0
	for kind := -70000; kind <= 70000; kind++ {
		if _, _, err := keys.Do(s, api.Key{Kind: kind, Char: 0xf1}); !errors.Is(err, api.ErrArg) {
			count++
		}
	}
	if count != kinds || api.KeyType != 1 || api.KeyAid != kinds {
		t.Errorf("%d kinds", count)
	}
}

// P17.1: of a Locked screen ErrLocked, without a place, and the screen as it was, whichever the key but Reset, open or not the cursor's cell.
func TestLocked(t *testing.T) {
	for _, picture := range pictures {
		for cursor := range drawn(picture, 0).Cells {
			for kind := 1; kind <= kinds; kind++ {
				if kind == api.KeyReset {
					continue
				}
				for _, c := range []byte{0xf1, 0x7c, 0x6d} { // letters, and keys that ask
					checkError(t, flagged(drawn(picture, cursor), 1), api.Key{Kind: kind, Char: c}, api.ErrLocked)
					checkError(t, flagged(drawn(picture, cursor), 3), api.Key{Kind: kind, Char: c}, api.ErrLocked)
				}
			}
		}
	}
}

// P17.1: of Aid ErrByte of each Char that is no key that asks, of Locked screens, too: it is named first.
func TestAidOfNoKey(t *testing.T) {
	for c := range 256 {
		if slices.Contains(asking, byte(c)) {
			continue
		}
		for n := range 4 {
			for _, s := range []api.Screen{drawn("Oa.q", 1), drawn("ab", 1), drawn("P", 0)} {
				checkError(t, flagged(s, n), api.Key{Kind: api.KeyAid, Char: byte(c)}, api.ErrByte)
			}
		}
	}
}

// P17.1: of Type ErrByte of each byte that is no letter, of Locked screens and at cells that aren't open, too: chapter 14 names it first.
func TestTypeOfNoLetter(t *testing.T) {
	for c := range 256 {
		if isLetter(byte(c)) {
			continue
		}
		for n := range 4 {
			for _, s := range []api.Screen{drawn("Oa.q", 1), drawn("ab", 1), drawn("P", 0), drawn("n1", 1)} {
				checkError(t, flagged(s, n), api.Key{Kind: api.KeyType, Char: byte(c)}, api.ErrByte)
			}
		}
	}
}

// P17.1: keys that type, Delete and to the end are refused at a cell that isn't open: in a protected field, around the end, too, and where a field of any kind begins; other keys aren't.
func TestGuard(t *testing.T) {
	for _, x := range []struct {
		picture string
		cursor  int
	}{
		{"o", 0}, {"N", 0}, {"p", 0}, {"Q", 0}, {"oab", 0}, {"n1.", 0}, {"abP", 2}, {"abO", 2}, {"ab/on", 2}, {"o/a/n", 2},
		{"pa.", 1}, {"pa.", 2}, {"Q1.", 1}, {"abp", 0}, {".aQ", 1}, {"oaPb", 3}, {"oa.pb.n.", 5}, {"b.oap", 0}, {"b.oaq.", 5}, {"oqp.", 2}, {"oop.", 1}, {"oa/Pb/cd", 5}, {"p/a/o/b", 1},
	} {
		for n := 0; n < 4; n += 2 {
			s := flagged(drawn(x.picture, x.cursor), n)
			for kind := 1; kind <= kinds; kind++ {
				k := api.Key{Kind: kind, Char: 0xf1}
				if slices.Contains([]int{api.KeyType, api.KeyDup, api.KeyMark, api.KeyDelete, api.KeyToEnd}, kind) {
					checkError(t, s, k, api.ErrGuard)
					continue
				}
				checkPress(t, s, k)
				if _, _, err := keys.Do(s, k); err != nil {
					t.Fatalf("%v, %v: %v", s, k, err)
				}
			}
		}
	}
}

// P17.1: letters that are no digits are refused in a Numeric field; Dup and Mark aren't.
func TestDigit(t *testing.T) {
	for _, x := range []struct {
		picture string
		cursor  int
	}{{"n1.", 1}, {"N..", 2}, {"..n", 0}, {".an.p", 3}, {"oan.", 3}, {"o/n/.", 2}} {
		for n := 0; n < 4; n += 2 {
			s := flagged(drawn(x.picture, x.cursor), n)
			for _, c := range []byte{0xc1, 0x40, 0xfe, 0xfa, 0xef, 0x5f, 0x61, 0x4a, 0x4c} {
				checkError(t, s, api.Key{Kind: api.KeyType, Char: c}, api.ErrDigit)
			}
			for _, k := range []api.Key{{Kind: api.KeyDup, Char: 0xc1}, {Kind: api.KeyMark, Char: 0xc1}, {Kind: api.KeyType, Char: 0x1c}, {Kind: api.KeyType, Char: 0x1e}, {Kind: api.KeyType, Char: 0xf9}} {
				if _, _, err := keys.Do(s, k); err != nil {
					t.Fatalf("%v, %v: %v", s, k, err)
				}
			}
		}
	}
}

// P17.1: with Insert, keys that type are refused where no cell of the line has the character 0; without it they aren't.
func TestFull(t *testing.T) {
	for _, x := range []struct {
		picture string
		cursor  int
	}{{"a", 0}, {"abc", 1}, {".bc", 1}, {"oabp.", 1}, {"o.ab", 2}, {"Oab/.cd", 5}, {"12n", 0}, {".2n", 1}, {"a/b", 1}, {"1p.N23", 4}} {
		s := drawn(x.picture, x.cursor)
		for _, k := range []api.Key{{Kind: api.KeyDup}, {Kind: api.KeyMark}, {Kind: api.KeyType, Char: 0xf1}} {
			checkPress(t, s, k)
			if _, _, err := keys.Do(s, k); err != nil {
				t.Fatalf("%v, %v: %v", s, k, err)
			}
			checkError(t, flagged(s, 2), k, api.ErrFull)
		}
	}
}

// P17.1: of the errors the first that holds: each mix, of each kind of key, in the order that the chapters name.
func TestFirstError(t *testing.T) {
	letters := []int{api.KeyType, api.KeyDup, api.KeyMark}
	for kind := range kinds + 2 {
		types := slices.Contains(letters, kind)
		for mix := range 32 {
			noByte, locked, shut, numeric, full := mix&1 != 0, mix&2 != 0, mix&4 != 0, mix&8 != 0, mix&16 != 0
			s, k := drawn("oa.Pb.", 1), api.Key{Kind: kind, Char: 0x7c} // a letter that is no digit, and a key that asks
			s.Locked, s.Insert, s.Cells[0].Attr.Numeric = locked, full, numeric
			if noByte {
				k.Char = 0x11
			}
			if full {
				s.Cells[2] = cellOf('b')
			}
			if shut {
				s.Cursor = 3 + mix/8%3
			}
			var code api.Errno
			switch {
			case kind == 0 || kind > kinds:
				code = api.ErrArg
			case noByte && (kind == api.KeyType || kind == api.KeyAid):
				code = api.ErrByte
			case locked && kind != api.KeyReset:
				code = api.ErrLocked
			case shut && (types || kind == api.KeyDelete || kind == api.KeyToEnd):
				code = api.ErrGuard
			case numeric && kind == api.KeyType:
				code = api.ErrDigit
			case full && types:
				code = api.ErrFull
			}
			if code != 0 {
				checkError(t, s, k, code)
				continue
			}
			if _, asks, err := keys.Do(s, k); err != nil || asks != (kind == api.KeyAid) {
				t.Fatalf("%v, %v: %t, %v", s, k, asks, err)
			}
			checkPress(t, s, k)
		}
	}
}

// P17.1: behind a refusal the screen is Locked, and each key but Reset is refused with ErrLocked, till Reset.
func TestBehindARefusal(t *testing.T) {
	count := 0
	everyDesk(func(s api.Screen) {
		if s.Locked {
			return
		}
		for _, k := range press {
			refused, asks, err := keys.Do(s, k)
			if asks || !refused.Locked {
				continue
			}
			count++
			if !keys.Refused(err) {
				t.Fatalf("%v, %v: %v", s, k, err)
			}
			checkError(t, refused, api.Key{Kind: k.Kind, Char: 0xf1}, api.ErrLocked)
			checkError(t, refused, api.Key{Kind: api.KeyAid, Char: 0x7d}, api.ErrLocked)
			checkPressed(t, refused, api.Key{Kind: api.KeyReset}, flagged(s, 0), false, 0)
		}
	})
	if count == 0 {
		t.Error("no key was refused")
	}
}
