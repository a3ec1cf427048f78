package edit_test

import (
	"errors"
	"testing"

	"shutter/api"
	"shutter/edit"
	"shutter/grid"
)

// words is an error that has no number.
type words string

func (w words) Error() string { return string(w) }

// checkRefused holds Type against an error: the screen as it was, or Locked, if the key is refused.
func checkRefused(t *testing.T, s api.Screen, c byte, code api.Errno) {
	t.Helper()
	want := grid.Copy(s)
	want.Locked = s.Locked || placeOf(code, s.Cursor) != none
	checkTyped(t, s, c, want, code)
}

// P14.2: a byte that is no letter changes nothing, wherever the cursor is, and isn't told a place.
func TestNoLetter(t *testing.T) {
	count := 0
	for n := range 256 {
		if isLetter(byte(n)) {
			continue
		}
		count++
		for _, picture := range pictures {
			for cursor := range picture {
				for flags := range 4 {
					checkRefused(t, flagged(drawn(picture, cursor), flags), byte(n), api.ErrByte)
				}
			}
		}
	}
	if count != 256-191-2 {
		t.Errorf("%d bytes are no letters", count)
	}
}

// P14.2: on a Locked screen no letter changes anything, wherever the cursor is, and there is no place.
func TestLocked(t *testing.T) {
	for _, c := range []byte{0x40, 0x4b, 0x60, 0xc1, 0xf0, 0xfe, 0x1c, 0x1e} {
		for _, picture := range pictures {
			for cursor := range picture {
				checkRefused(t, flagged(drawn(picture, cursor), 1), c, api.ErrLocked)
				checkRefused(t, flagged(drawn(picture, cursor), 3), c, api.ErrLocked)
			}
		}
	}
}

// P14.2: a cell that isn't open: in a protected field, and where a field of any kind begins; digits go there as little.
func TestGuard(t *testing.T) {
	for _, x := range []struct {
		picture string
		cursor  int
	}{
		{"o", 0}, {"N", 0}, {"p", 0}, {"Q", 0}, {"oa.", 0}, {"n1.", 0}, {"a.p", 2}, {"a.o", 2},
		{"pa.", 1}, {"pa.", 2}, {"Q1.", 1}, {"q1.", 2}, {"a.p", 0}, {".aQ", 1}, {"oapb", 3}, {"oa.pb.n.", 5}, {"b.oap", 0}, {"b.oap", 1}, {"b.oaq.", 5}, {"oqp.", 2}, {"oop.", 1},
	} {
		for _, c := range []byte{0x40, 0xc1, 0xfe, 0x1c, 0x1e, 0xf0, 0xf9, 0x60, 0x4b} {
			checkRefused(t, flagged(drawn(x.picture, x.cursor), 0), c, api.ErrGuard)
			checkRefused(t, flagged(drawn(x.picture, x.cursor), 2), c, api.ErrGuard)
		}
	}
}

// P14.2: in a Numeric field digits, Dup and FM alone go, with Insert and without; in others, and where there is none, all letters.
func TestNumeric(t *testing.T) {
	for n := range 256 {
		c := byte(n)
		if !isLetter(c) {
			continue
		}
		for flags := 0; flags < 4; flags += 2 {
			for _, s := range []api.Screen{drawn("n.12", 1), drawn("n1.2", 2), drawn("1.Nab.", 5), drawn("1.Nab.", 0), drawn("..oapn", 1)} {
				s = flagged(s, flags)
				if isDigit(c) || c == api.ByteDup || c == api.ByteFM {
					want, _ := typed(s, c)
					checkTyped(t, s, c, want, 0)
					continue
				}
				checkRefused(t, s, c, api.ErrDigit)
			}
			for _, s := range []api.Screen{drawn("1.2", 1), drawn("o.12", 1), drawn("o.n1", 1), drawn("n.o1.", 4)} {
				want, _ := typed(flagged(s, flags), c)
				checkTyped(t, flagged(s, flags), c, want, 0)
			}
		}
	}
}

// P14.2: with Insert and no cell of the line with the character 0: one ahead of the cursor, in another field, or around the end of a screen without fields doesn't count. Without Insert the letter goes.
func TestFull(t *testing.T) {
	for _, x := range []struct {
		picture string
		cursor  int
	}{
		{"1", 0}, {"12", 0}, {"12", 1}, {".12", 1}, {"..1", 2}, {"1.2", 2},
		{"o1", 1}, {"O12", 1}, {"n12", 2}, {"o.12", 2}, {"n..1", 3}, {"o12p.", 1}, {"o12p.", 2}, {"12o3", 3}, {"12o3", 1}, {"1.23o", 2}, {".2o.4", 1}, {"12o.45", 4}, {"1p.o23", 5}, {"1p.o23", 0}, {"p.q.n1o.", 5}, {"on1q.", 2},
	} {
		for _, c := range []byte{0xf0, 0x4b, 0x1c, 0x1e} {
			s := drawn(x.picture, x.cursor)
			want, _ := typed(s, c)
			checkTyped(t, s, c, want, 0)
			checkRefused(t, flagged(s, 2), c, api.ErrFull)
		}
	}
}

// P14.2: of the errors the first that holds: each mix of them all, where the cursor's cell isn't open as its field is protected, and as one begins there.
func TestFirstError(t *testing.T) {
	order := []api.Errno{api.ErrByte, api.ErrLocked, api.ErrGuard, api.ErrDigit, api.ErrFull}
	for mix := range 1 << len(order) {
		holds := func(n int) bool { return mix>>n&1 != 0 }
		var first api.Errno
		for n := len(order) - 1; n >= 0; n-- {
			if holds(n) {
				first = order[n]
			}
		}
		letters := []byte{0xf7}
		if holds(3) {
			letters = []byte{0xc1, 0x40}
		}
		if holds(0) {
			letters = []byte{0, 0x11, 0x3f, 0xff}
		}
		for _, open := range []bool{false, true} {
			s := drawn("..a12.", 4)
			s.Cells[2] = api.Cell{Field: true, Attr: api.Attr{Numeric: holds(3), Protected: holds(2) && !open, Show: 1}}
			if holds(2) && open {
				s.Cursor = 2
			}
			if holds(4) {
				s.Cells[0], s.Cells[1], s.Cells[5] = cellOf('a'), cellOf('b'), cellOf('c')
			}
			s.Locked, s.Insert = holds(1), true
			for _, c := range letters {
				if first != 0 {
					checkRefused(t, s, c, first)
					continue
				}
				want, code := typed(s, c)
				if code != 0 {
					t.Fatalf("%v: %d", s, code)
				}
				checkTyped(t, s, c, want, 0)
			}
		}
	}
}

// P14.1: Deny with each number, alone, in a Spot and in Spots: the screen is Locked, all else as it was, and the place is the cursor.
func TestDeny(t *testing.T) {
	for n := api.ErrArg; n <= api.ErrNone; n++ {
		for i, picture := range pictures {
			for cursor := range picture {
				s := flagged(drawn(picture, cursor), (i+cursor)%4)
				want := grid.Copy(s)
				want.Locked = true
				for _, e := range []error{n, &api.Spot{At: cursor + 1, Err: n}, &api.Spot{At: -7, Err: &api.Spot{At: most, Err: n}}} {
					got, err := edit.Deny(s, e)
					if !grid.Same(got, want) {
						t.Fatalf("%v: %v", s, got)
					}
					checkError(t, err, n, cursor)
					if !errors.Is(err, e) {
						t.Fatalf("%v isn't %v", err, e)
					}
				}
			}
		}
	}
}

// P14.1: Deny of great screens, with the cursor at the first, a middle and the last cell, and of an error that has no number.
func TestDenyOfGreatScreens(t *testing.T) {
	for n, x := range great {
		s := flagged(filled(x, "oa.pb"), n)
		for _, s.Cursor = range []int{0, len(s.Cells) / 2, len(s.Cells) - 1} {
			want := grid.Copy(s)
			want.Locked = true
			for _, e := range []error{words("none of api's"), errors.New("none"), api.Errno(0), api.Errno(-16)} {
				got, err := edit.Deny(s, e)
				var spot *api.Spot
				if !grid.Same(got, want) || !errors.Is(err, e) || !errors.As(err, &spot) || spot.At != s.Cursor || spot.Err != e {
					t.Fatalf("%v: %v (%v)", brief(s), brief(got), err)
				}
			}
		}
	}
}
