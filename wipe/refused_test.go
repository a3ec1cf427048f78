package wipe_test

import (
	"math"
	"slices"
	"testing"

	"shutter/api"
	"shutter/grid"
	"shutter/wipe"
)

// strange is numbers that are no kinds of keys, beside those that are and far off.
var strange = []int{0, -1, -2, -12, -13, -14, 18, 19, 100, 268, 269, 270, half + 12, half + 14, -half, math.MaxInt, math.MaxInt - 1, math.MinInt, math.MinInt + 1, math.MinInt + 12, math.MinInt + 13, math.MinInt + 14}

// P16.1: Wipes of each kind of key, and of other numbers.
func TestWipes(t *testing.T) {
	for _, kind := range wipes {
		if !wipe.Wipes(kind) {
			t.Errorf("%d doesn't wipe", kind)
		}
	}
	for _, kind := range append(strange, others...) {
		if wipe.Wipes(kind) {
			t.Errorf("%d wipes", kind)
		}
	}
	count := 0
	for kind := -70000; kind <= 70000; kind++ {
		if wipe.Wipes(kind) {
			count++
		}
	}
	if count != 3 || len(wipes)+len(others) != 17 {
		t.Errorf("%d kinds wipe", count)
	}
}

// checkRefused holds Do against an error: the screen is as it was, or Locked, if the key is refused.
func checkRefused(t *testing.T, s api.Screen, kind int, code api.Errno) {
	t.Helper()
	want := grid.Copy(s)
	want.Locked = s.Locked || code == api.ErrGuard
	checkWiped(t, s, kind, want, code)
}

// P16.1: of another kind ErrArg, and the screen as it was, wherever the cursor is: of Locked screens, too, it is named first.
func TestNoWipe(t *testing.T) {
	for _, picture := range pictures {
		for cursor := range drawn(picture, 0).Cells {
			for n := range 4 {
				for _, kind := range append(strange, others...) {
					checkRefused(t, flagged(drawn(picture, cursor), n), kind, api.ErrArg)
				}
			}
		}
	}
}

// P16.1: of a Locked screen ErrLocked, and the screen as it was, whichever the key, open or not the cursor's cell: there is no place.
func TestLocked(t *testing.T) {
	for _, picture := range pictures {
		for cursor := range drawn(picture, 0).Cells {
			for _, kind := range wipes {
				checkRefused(t, flagged(drawn(picture, cursor), 1), kind, api.ErrLocked)
				checkRefused(t, flagged(drawn(picture, cursor), 3), kind, api.ErrLocked)
			}
		}
	}
}

// P16.1: Delete and to the end are refused at a cell that isn't open: in a protected field, around the end, too, and where a field of any kind begins; all input isn't.
func TestGuard(t *testing.T) {
	for _, x := range []struct {
		picture string
		cursor  int
	}{
		{"o", 0}, {"N", 0}, {"p", 0}, {"Q", 0}, {"oab", 0}, {"n1.", 0}, {"abP", 2}, {"abO", 2}, {"ab/on", 2}, {"ab/on", 3}, {"o/a/n", 2},
		{"pa.", 1}, {"pa.", 2}, {"Q1.", 1}, {"q1.", 2}, {"abp", 0}, {".aQ", 1}, {"oaPb", 3}, {"oa.pb.n.", 5}, {"b.oap", 0}, {"b.oap", 1}, {"b.oaq.", 5}, {"oqp.", 2}, {"opa", 2}, {"oop.", 1}, {"oa/Pb/cd", 5}, {"p/a/o/b", 1},
	} {
		for flags := 0; flags < 4; flags += 2 {
			s := flagged(drawn(x.picture, x.cursor), flags)
			checkRefused(t, s, api.KeyDelete, api.ErrGuard)
			checkRefused(t, s, api.KeyToEnd, api.ErrGuard)
			checkDo(t, s, api.KeyAll)
		}
	}
}

// P16.1: of the errors the first that holds: each mix of them all, the cursor's cell not open as its field is protected, and as one begins there.
func TestFirstError(t *testing.T) {
	for mix := range 8 {
		kinds := []int{api.KeyDelete, api.KeyToEnd}
		if mix&1 != 0 {
			kinds = []int{api.KeyType, api.KeyDelete - 1, api.KeyAll + 1, api.KeyAid, 0}
		}
		for _, s := range []api.Screen{drawn("aoPbc", 3), drawn("aoPbc", 2), drawn("aoPbc", 1)} {
			if mix&4 == 0 {
				s.Cursor = 0
				s.Cells[2] = cellOf('a')
			}
			s.Locked = mix&2 != 0
			for _, kind := range kinds {
				switch {
				case mix&1 != 0:
					checkRefused(t, s, kind, api.ErrArg)
				case mix&2 != 0:
					checkRefused(t, s, kind, api.ErrLocked)
				case mix&4 != 0:
					checkRefused(t, s, kind, api.ErrGuard)
				default:
					want, code := wiped(s, kind)
					if code != 0 {
						t.Fatalf("%v, %d: %d", s, kind, code)
					}
					checkWiped(t, s, kind, want, 0)
				}
			}
		}
	}
}

// P16.1: behind a refusal the screen is Locked: the next key of each kind that wipes meets ErrLocked, and changes nothing.
func TestBehindARefusal(t *testing.T) {
	everyDesk(func(s api.Screen) {
		if isOpen(s, s.Cursor) {
			return
		}
		for _, kind := range []int{api.KeyDelete, api.KeyToEnd} {
			refused, _ := wipe.Do(s, kind)
			for _, next := range wipes {
				checkRefused(t, refused, next, api.ErrLocked)
			}
		}
	})
}

// P16.1: each kind there is on great screens, Locked and not: which error it is, if any.
func TestErrorsOnGreatScreens(t *testing.T) {
	for _, x := range great {
		s := filled(x, "oa.Pb")
		for _, s.Cursor = range []int{0, 1, len(s.Cells) / 2, len(s.Cells) - 1} {
			for kind := range 20 {
				if !slices.Contains(wipes, kind) {
					checkRefused(t, flagged(s, 0), kind, api.ErrArg)
					checkRefused(t, flagged(s, 1), kind, api.ErrArg)
					continue
				}
				checkRefused(t, flagged(s, 1), kind, api.ErrLocked)
				if kind != api.KeyAll && !isOpen(s, s.Cursor) {
					checkRefused(t, flagged(s, 2), kind, api.ErrGuard)
					continue
				}
				checkDo(t, flagged(s, 0), kind)
			}
		}
	}
}
