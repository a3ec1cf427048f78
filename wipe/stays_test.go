package wipe_test

import (
	"errors"
	"math"
	"slices"
	"testing"

	"shutter/api"
	"shutter/grid"
	"shutter/wipe"
)

// P16.3: what is handed in stays, the room behind the cells among it, and what is answered is new memory, also where nothing is changed, and of a refused key: that screen isn't the one that was handed in.
func TestAnswersAreNew(t *testing.T) {
	for _, picture := range pictures {
		whole := drawn(picture, 0)
		room := append(whole.Cells, cellOf('.'), cellOf('a'), cellOf('o'))
		was := slices.Clone(room)
		answers := [][]api.Cell{room}
		for cursor := range whole.Cells {
			for n := range 4 {
				s := flagged(drawn(picture, cursor), n)
				s.Cells = room[:len(whole.Cells)]
				given := s
				for kind := range 19 {
					got, err := wipe.Do(s, kind)
					if err == nil || got.Locked != s.Locked {
						answers = append(answers, got.Cells)
					}
				}
				if !slices.Equal(room, was) || !grid.Same(s, given) {
					t.Fatalf("%s: %v, not %v", picture, room, was)
				}
			}
		}
		if len(answers) != 1+2*3*len(whole.Cells) || !apart(answers) {
			t.Fatalf("%s: %d answers, or some in one memory", picture, len(answers))
		}
	}
}

// P16.3: what is done to an answer isn't seen in what was handed in, or in the next answer; and the other way round.
func TestAnswersAreKeptApart(t *testing.T) {
	for i, picture := range pictures {
		for cursor := range drawn(picture, 0).Cells {
			for _, kind := range wipes {
				s, was := flagged(drawn(picture, cursor), i&2), flagged(drawn(picture, cursor), i&2)
				want, _ := wiped(was, kind)
				first, _ := wipe.Do(s, kind)
				second, _ := wipe.Do(s, kind)
				spoil(first)
				if !grid.Same(s, was) || !grid.Same(second, want) {
					t.Fatalf("%v, not %v; %v", s, was, second)
				}
				spoil(s)
				if !grid.Same(second, want) {
					t.Fatalf("%v, not %v", second, want)
				}
			}
		}
	}
}

// spoil writes into all cells of the screen, and behind them.
func spoil(s api.Screen) {
	for i := range s.Cells {
		s.Cells[i] = cellOf('Q')
	}
	_ = append(s.Cells, cellOf('Q'))
}

// P16.3: what is handed in stays beside an error, too, whichever it is; the same call answers the same again, in a Spot of its own.
func TestHandedInStaysBesideErrors(t *testing.T) {
	everyDesk(func(s api.Screen) {
		was := grid.Copy(s)
		for _, kind := range []int{0, api.KeyMark, api.KeyInsert, math.MaxInt, math.MinInt} {
			checkRefused(t, s, kind, api.ErrArg)
		}
		if !isOpen(s, s.Cursor) {
			checkRefused(t, s, api.KeyDelete, api.ErrGuard)
			_, first := wipe.Do(s, api.KeyDelete)
			_, second := wipe.Do(s, api.KeyDelete)
			var a, b *api.Spot
			if !errors.As(first, &a) || !errors.As(second, &b) || a == b {
				t.Fatalf("%v, %v: one Spot", first, second)
			}
		}
		s.Locked, was.Locked = true, true
		for _, kind := range wipes {
			checkRefused(t, s, kind, api.ErrLocked)
			checkRefused(t, s, kind, api.ErrLocked)
		}
		if !grid.Same(s, was) {
			t.Fatalf("%v, not %v", s, was)
		}
	})
}

// wrongScreens is screens that aren't right: without cells, with more or fewer than rows and columns tell, with a cursor that is none, with cells that aren't right.
func wrongScreens() []api.Screen {
	list := []api.Screen{{}, {Cells: []api.Cell{}, Cursor: -1}, {Rows: 24, Cols: 80, Cursor: 5, Insert: true}, {Rows: math.MaxInt, Cols: math.MinInt, Cursor: math.MinInt}}
	for _, n := range []int{1, 5, most + 1, 20000} {
		for i, cursor := range []int{-1, n, -n, 0, n - 1, math.MaxInt, math.MinInt} {
			for _, picture := range []string{"a.", "o", "P.", "aQbn."} {
				s := filled(shape{1, n}, picture)
				s.Rows, s.Cols, s.Cursor, s.Insert = i-1, n+1, cursor, i%2 == 0
				list = append(list, s)
			}
		}
	}
	for _, c := range []api.Cell{{Char: 1}, {Char: 0xff}, {Field: true, Char: 0xc1}, {Attr: api.Attr{Protected: true, Modified: true}}, {Field: true, Attr: api.Attr{Show: 4, Modified: true}}, {Field: true, Attr: api.Attr{Protected: true, Show: math.MinInt}, Char: 0xff}} {
		for cursor := range 5 {
			list = append(list, api.Screen{Rows: 1, Cols: 3, Cells: []api.Cell{c, {Char: 0xc1}, c}, Cursor: cursor - 1}, api.Screen{Rows: 3, Cols: 1, Cells: []api.Cell{{}, c, {Field: true}}, Cursor: cursor - 1, Insert: true})
		}
	}
	return list
}

// P1: no call panics at screens that aren't right, or at kinds of all numbers, of which no more is promised; what is handed in stays there, too.
func TestWrongArguments(t *testing.T) {
	kinds := slices.Concat(wipes, others, strange)
	list := append(wrongScreens(), drawn("a", 0), drawn("Oa/q.N", 1), filled(shape{127, 129}, "Oa.p."))
	for _, s := range list {
		was := grid.Copy(s)
		for _, s.Locked = range []bool{true, false} {
			for _, kind := range kinds {
				wipe.Do(s, kind)
			}
		}
		if !grid.Same(s, was) {
			t.Fatalf("%d by %d, %d cells: not as it was", s.Rows, s.Cols, len(s.Cells))
		}
	}
}

// P1: no call panics at a screen that is right but for a cursor that is no cell.
func TestWrongCursors(t *testing.T) {
	for _, picture := range pictures {
		size := len(drawn(picture, 0).Cells)
		for _, cursor := range []int{-1, size, -size, size + 1, most, half, -half, math.MaxInt, math.MinInt, math.MinInt + 1} {
			s := drawn(picture, cursor)
			for _, kind := range wipes {
				wipe.Do(s, kind)
			}
			if !grid.Same(s, drawn(picture, cursor)) {
				t.Fatalf("%v: not as it was", s)
			}
		}
	}
}
