package move_test

import (
	"math"
	"slices"
	"testing"

	"shutter/api"
	"shutter/move"
)

// strange is numbers that are no kinds of keys, beside those that are and far off.
var strange = []int{0, -1, -2, -9, 18, 19, 100, 258, 265, half + 2, half + 9, -half, math.MaxInt, math.MaxInt - 1, math.MinInt, math.MinInt + 1, math.MinInt + 2, math.MinInt + 9}

// P15.1: Moves of each kind of key, and of other numbers.
func TestMoves(t *testing.T) {
	for _, kind := range moves {
		if !move.Moves(kind) {
			t.Errorf("%d is no move", kind)
		}
	}
	for _, kind := range append(strange, others...) {
		if move.Moves(kind) {
			t.Errorf("%d is a move", kind)
		}
	}
	count := 0
	for kind := -70000; kind <= 70000; kind++ {
		if move.Moves(kind) {
			count++
		}
	}
	if count != 8 || len(moves) != 8 {
		t.Errorf("%d moves", count)
	}
}

// P15.1: of another kind ErrArg, and the screen as it was, Locked or not: of Locked screens, too, it is named first.
func TestNoMove(t *testing.T) {
	for _, picture := range pictures {
		for cursor := range drawn(picture, 0).Cells {
			for n := range 4 {
				for _, kind := range append(strange, others...) {
					checkRefused(t, flagged(drawn(picture, cursor), n), kind, api.ErrArg)
				}
			}
		}
	}
}

// P15.1: of a Locked screen ErrLocked, and the screen as it was, whichever the move, also where it would lead nowhere.
func TestLocked(t *testing.T) {
	for _, picture := range pictures {
		for cursor := range drawn(picture, 0).Cells {
			for _, kind := range moves {
				checkRefused(t, flagged(drawn(picture, cursor), 1), kind, api.ErrLocked)
				checkRefused(t, flagged(drawn(picture, cursor), 3), kind, api.ErrLocked)
			}
		}
	}
}

// P15.1: each kind there is on great screens, Locked and not: which error it is, if any.
func TestErrorsOnGreatScreens(t *testing.T) {
	for _, x := range great {
		s := filled(x, "oa.pb")
		for _, s.Cursor = range []int{0, len(s.Cells) / 2, len(s.Cells) - 1} {
			for kind := range 20 {
				if !slices.Contains(moves, kind) {
					checkRefused(t, flagged(s, 0), kind, api.ErrArg)
					checkRefused(t, flagged(s, 1), kind, api.ErrArg)
					continue
				}
				checkRefused(t, flagged(s, 1), kind, api.ErrLocked)
				checkMove(t, flagged(s, 0), kind, goal(s, kind))
			}
		}
	}
}
