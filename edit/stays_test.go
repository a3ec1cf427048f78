package edit_test

import (
	"errors"
	"math"
	"slices"
	"testing"

	"shutter/api"
	"shutter/edit"
	"shutter/grid"
)

// letters is bytes of all kinds: digits, other letters, Dup, FM, and such as are none.
var letters = []byte{0xf0, 0x60, 0x4b, 0xc1, 0x40, 0xfe, 0x1c, 0x1e, 0, 0x11, 0xff}

// P14.4: what is handed in stays, the room behind the cells among it, and what is answered is new memory, also where nothing is changed, and of a refused letter: that screen isn't the one that was handed in.
func TestAnswersAreNew(t *testing.T) {
	for n, picture := range pictures {
		room := append(drawn(picture, 0).Cells, cellOf('.'), cellOf('a'), cellOf('o'))
		was := slices.Clone(room)
		answers := [][]api.Cell{room}
		var lines [][]int
		for cursor := range picture {
			for flags := range 4 {
				s := flagged(drawn(picture, cursor), flags)
				s.Cells = room[:len(picture)]
				given := s
				for _, c := range letters {
					if got, err := edit.Type(s, c); err == nil || got.Locked != s.Locked {
						answers = append(answers, got.Cells)
					}
				}
				denied, _ := edit.Deny(s, api.ErrGuard)
				answers = append(answers, denied.Cells, edit.Modify(s, cursor).Cells, edit.Modify(edit.Modify(s, cursor), cursor).Cells)
				lines = append(lines, edit.Line(s, cursor), edit.Line(s, len(picture)/2))
				if !slices.Equal(room, was) || !grid.Same(s, given) {
					t.Fatalf("%s: %v, not %v", picture, room, was)
				}
			}
		}
		if !apart(answers) || !apart(lines) {
			t.Fatalf("%s (%d): in one memory", picture, n)
		}
	}
}

// P14.4: what is done to an answer isn't seen in what was handed in, or in the next answer; and the other way round.
func TestAnswersAreKeptApart(t *testing.T) {
	for i, picture := range pictures {
		for cursor := range picture {
			s, was := flagged(drawn(picture, cursor), i&2), flagged(drawn(picture, cursor), i&2)
			typeWant, code := typed(was, 0xf1)
			modifyWant, lineWant := modified(was, cursor), lineOf(was, cursor)
			first, _ := edit.Type(s, 0xf1)
			second, _ := edit.Type(s, 0xf1)
			third, fourth := edit.Modify(s, cursor), edit.Modify(s, cursor)
			fifth, sixth := edit.Line(s, cursor), edit.Line(s, cursor)
			if code == 0 {
				spoil(first)
			}
			spoil(third)
			for j := range fifth {
				fifth[j] = -1
			}
			_ = append(fifth, -1)
			if !grid.Same(s, was) {
				t.Fatalf("%v, not %v", s, was)
			}
			if code == 0 {
				spoil(s)
			}
			if !grid.Same(second, typeWant) || !slices.Equal(sixth, lineWant) || code == 0 && !grid.Same(fourth, modifyWant) {
				t.Fatalf("%s: %v, %v, %v", picture, second, fourth, sixth)
			}
		}
	}
}

// spoil writes into all cells of the screen, and behind them.
func spoil(s api.Screen) {
	for i := range s.Cells {
		s.Cells[i] = cellOf('Q')
	}
	_ = append(s.Cells, cellOf('Q'))
}

// P14.4: what is handed in stays beside an error, too, whichever it is.
func TestHandedInStaysBesideErrors(t *testing.T) {
	everyDesk(func(s api.Screen) {
		was := grid.Copy(s)
		for _, c := range letters {
			edit.Type(s, c)
		}
		for _, e := range []error{api.ErrGuard, &api.Spot{At: 3, Err: api.ErrFull}} {
			_, first := edit.Deny(s, e)
			_, second := edit.Deny(s, e)
			var a, b *api.Spot
			if !errors.As(first, &a) || !errors.As(second, &b) || a == b || a == e {
				t.Fatalf("%v, %v: one Spot", first, second)
			}
			a.At = most
			if b.At != s.Cursor {
				t.Fatalf("%v: at %d", e, b.At)
			}
		}
		if !grid.Same(s, was) {
			t.Fatalf("%v, not %v", s, was)
		}
	})
}

// wrongScreens is screens that aren't right: without cells, with more or fewer than rows and columns tell, with a cursor that is none, with cells that aren't right.
func wrongScreens() []api.Screen {
	list := []api.Screen{{}, {Cells: []api.Cell{}, Cursor: -1}, {Rows: 24, Cols: 80, Cursor: 5, Insert: true}, {Rows: math.MaxInt, Cols: math.MinInt, Cursor: math.MinInt}}
	for _, n := range []int{1, 5, most + 1, 20000} {
		for i, cursor := range []int{-1, n, -n, 0, n - 1, math.MaxInt, math.MinInt} {
			s := filled(shape{1, n}, []string{"a.", "o", "p.", "aqbn."}[i%4])
			s.Rows, s.Cols, s.Cursor, s.Insert = i-1, n+1, cursor, i%2 == 0
			list = append(list, s)
		}
	}
	for _, c := range []api.Cell{{Char: 1}, {Char: 0xff}, {Field: true, Char: 0xc1}, {Attr: api.Attr{Protected: true, Numeric: true}}, {Field: true, Attr: api.Attr{Show: 4}}, {Field: true, Attr: api.Attr{Protected: true, Numeric: true, Show: math.MinInt}, Char: 0xff}} {
		for cursor := range 5 {
			list = append(list, api.Screen{Rows: 1, Cols: 3, Cells: []api.Cell{c, {Char: 0xc1}, c}, Cursor: cursor - 1}, api.Screen{Rows: 1, Cols: 3, Cells: []api.Cell{{}, c, {Field: true}}, Cursor: cursor - 1, Insert: true})
		}
	}
	return list
}

// P1: no call panics at screens that aren't right, at cells that there aren't, or at errors of any kind, of which no more is promised; what is handed in stays there, too.
func TestWrongArguments(t *testing.T) {
	var spot *api.Spot
	errs := []error{nil, spot, &api.Spot{}, &api.Spot{At: math.MinInt, Err: spot}, words(""), errors.Join(api.ErrFull, nil, words("w")), api.Errno(math.MinInt)}
	list := append(wrongScreens(), drawn("a", 0), drawn("oa.q.nb", 1), filled(shape{127, 129}, "oa.p."))
	for _, s := range list {
		was, size := grid.Copy(s), len(s.Cells)
		for c := range 256 {
			if size > 10 && c%15 != 0 {
				continue // a few bytes of all kinds
			}
			edit.Type(s, byte(c))
		}
		for _, a := range []int{0, 1, -1, size - 1, size, size + 1, -size, most, most + 1, half, -half, math.MaxInt, math.MinInt, math.MinInt + 1} {
			edit.Line(s, a)
			edit.Modify(s, a)
		}
		for _, e := range errs {
			got, err := edit.Deny(s, e)
			if !got.Locked || api.Where(err) != s.Cursor {
				t.Fatalf("%v: %v (%v)", brief(s), brief(got), e)
			}
		}
		if !grid.Same(s, was) {
			t.Fatalf("%d by %d, %d cells: not as it was", s.Rows, s.Cols, size)
		}
	}
}
