package keys_test

import (
	"errors"
	"math"
	"slices"
	"testing"

	"shutter/api"
	"shutter/grid"
	"shutter/keys"
)

// P17.3: no key but Aid changes a protected cell, or an attribute but that it is Modified; no key changes the size; a right screen stays right.
func TestWhatKeysChange(t *testing.T) {
	everyDesk(func(s api.Screen) {
		for _, k := range press {
			got, _, _ := keys.Do(s, k)
			if !grid.Right(got) || got.Rows != s.Rows || got.Cols != s.Cols {
				t.Fatalf("%v, %v: %v", s, k, got)
			}
			for i, behind := range got.Cells {
				was := s.Cells[i]
				if k.Kind == api.KeyAid || behind == was {
					continue
				}
				was.Attr.Modified = behind.Attr.Modified
				if isOpen(s, i) {
					was.Char = behind.Char
				}
				if behind != was {
					t.Fatalf("%v, %v: %v: changed at %d", s, k, got, i)
				}
			}
		}
	})
}

// P17.3: no key that asks but AidClear changes a cell or the cursor; keys that don't ask leave Locked off, or turn it on where they are refused.
func TestWhatLocks(t *testing.T) {
	everyDesk(func(s api.Screen) {
		for _, k := range press {
			got, asks, err := keys.Do(s, k)
			if asks && k.Char != api.AidClear && !(slices.Equal(got.Cells, s.Cells) && got.Cursor == s.Cursor) {
				t.Fatalf("%v, %v: %v", s, k, got)
			}
			if asks && (k.Kind != api.KeyAid || err != nil || !got.Locked || got.Insert) {
				t.Fatalf("%v, %v: %v asks", s, k, got)
			}
			if !asks && !s.Locked && got.Locked != (api.Where(err) != none) {
				t.Fatalf("%v, %v: %v, %v", s, k, got, err)
			}
		}
	})
}

// P17.3: on a Locked screen nothing changes but by Reset, which changes nothing but Locked and Insert; what it meets is an error.
func TestWhatChangesOnALockedScreen(t *testing.T) {
	everyDesk(func(s api.Screen) {
		if !s.Locked {
			return
		}
		for _, k := range press {
			got, asks, err := keys.Do(s, k)
			want := s
			if k.Kind == api.KeyReset {
				want = flagged(s, 0)
			}
			if !grid.Same(got, want) || asks || (err == nil) != (k.Kind == api.KeyReset) {
				t.Fatalf("%v, %v: %v, %t, %v", s, k, got, asks, err)
			}
		}
	})
}

// P17.3: a right screen stays right behind many keys, one by one, and its protected cells are as they were till AidClear.
func TestManyKeys(t *testing.T) {
	for i, picture := range pictures {
		s := drawn(picture, 0)
		for n := range 4000 {
			k := press[(n*n+7*n+i*(n/3)+n/11)%len(press)]
			if k.Kind == api.KeyAid && k.Char == api.AidClear {
				continue
			}
			want, asks, code := pressed(s, k)
			checkPressed(t, s, k, want, asks, code)
			for at, was := range s.Cells {
				if owner := ownerOf(s, at); !was.Field && owner != none && s.Cells[owner].Attr.Protected && want.Cells[at] != was {
					t.Fatalf("%v, %v: %v", s, k, want)
				}
			}
			s, _, _ = keys.Do(s, k)
			if !grid.Right(s) {
				t.Fatalf("%v, behind %v", s, k)
			}
			if s.Locked && n%3 == 0 {
				s, _, _ = keys.Do(s, api.Key{Kind: api.KeyReset})
			}
		}
	}
}

// P17.4: what is handed in stays, the room behind the cells among it, and what is answered is new memory, also where nothing is changed, and of a refused key: that screen isn't the one that was handed in.
func TestAnswersAreNew(t *testing.T) {
	for _, picture := range pictures {
		whole := drawn(picture, 0)
		room := append(whole.Cells, cellOf('.'), cellOf('a'), cellOf('o'))
		was := slices.Clone(room)
		answers := [][]api.Cell{room}
		for cursor := range whole.Cells {
			for n := range 4 {
				s := flagged(drawn(picture, cursor), n)
				s.Cells = room[:len(whole.Cells)]
				given := s
				for _, k := range press {
					got, _, err := keys.Do(s, k)
					if err == nil || got.Locked != s.Locked {
						answers = append(answers, got.Cells)
					}
				}
				if !slices.Equal(room, was) || !grid.Same(s, given) {
					t.Fatalf("%s: %v, not %v", picture, room, was)
				}
			}
		}
		if len(answers) < 10*len(whole.Cells) || !apart(answers) {
			t.Fatalf("%s: %d answers, or some in one memory", picture, len(answers))
		}
	}
}

// P17.4: what is done to an answer isn't seen in what was handed in, or in the next answer; and the other way round.
func TestAnswersAreKeptApart(t *testing.T) {
	for i, picture := range pictures {
		for cursor := range drawn(picture, 0).Cells {
			for _, k := range press {
				s, was := flagged(drawn(picture, cursor), i&2), flagged(drawn(picture, cursor), i&2)
				want, _, _ := pressed(was, k)
				first, _, err := keys.Do(s, k)
				second, _, _ := keys.Do(s, k)
				if err != nil && first.Locked == s.Locked {
					continue // that may be the screen that was handed in
				}
				spoil(first)
				if !grid.Same(s, was) || !grid.Same(second, want) {
					t.Fatalf("%v, not %v; %v", s, was, second)
				}
				spoil(s)
				if !grid.Same(second, want) {
					t.Fatalf("%v, not %v", second, want)
				}
			}
		}
	}
}

// spoil writes into all cells of the screen, and behind them.
func spoil(s api.Screen) {
	for i := range s.Cells {
		s.Cells[i] = cellOf('Q')
	}
	_ = append(s.Cells, cellOf('Q'))
}

// P17.4: what is handed in stays beside each answer, an error or not; the same call answers the same again, a refusal in a Spot of its own.
func TestHandedInStays(t *testing.T) {
	everyDesk(func(s api.Screen) {
		was := grid.Copy(s)
		for _, k := range press {
			got, asks, first := keys.Do(s, k)
			again, asksAgain, second := keys.Do(s, k)
			if !grid.Same(s, was) || !grid.Same(got, again) || asks != asksAgain || api.Code(first) != api.Code(second) {
				t.Fatalf("%v, not %v", s, was)
			}
			var a, b *api.Spot
			if errors.As(first, &a) && (!errors.As(second, &b) || a == b) {
				t.Fatalf("%v, %v: one Spot", first, second)
			}
		}
	})
}

// wrongScreens is screens that aren't right: without cells, with more or fewer than rows and columns tell, with a cursor that is none, with cells that aren't right.
func wrongScreens() []api.Screen {
	list := []api.Screen{{}, {Cells: []api.Cell{}, Cursor: -1}, {Rows: 24, Cols: 80, Cursor: 5, Insert: true}, {Rows: math.MaxInt, Cols: math.MinInt, Cursor: math.MinInt}}
	for _, n := range []int{1, 5, most + 1, 20000} {
		for i, cursor := range []int{-1, n, -n, 0, n - 1, math.MaxInt, math.MinInt} {
			for _, picture := range []string{"a.", "o", "P.", "aQbn."} {
				s := filled(shape{1, n}, picture)
				s.Rows, s.Cols, s.Cursor, s.Insert = i-1, n+1, cursor, i%2 == 0
				list = append(list, s)
			}
		}
	}
	for _, c := range []api.Cell{{Char: 1}, {Char: 0xff}, {Field: true, Char: 0xc1}, {Attr: api.Attr{Protected: true, Modified: true}}, {Field: true, Attr: api.Attr{Show: 4, Modified: true}}, {Field: true, Attr: api.Attr{Protected: true, Show: math.MinInt}, Char: 0xff}} {
		for cursor := range 5 {
			list = append(list, api.Screen{Rows: 1, Cols: 3, Cells: []api.Cell{c, {Char: 0xc1}, c}, Cursor: cursor - 1}, api.Screen{Rows: 3, Cols: 1, Cells: []api.Cell{{}, c, {Field: true}}, Cursor: cursor - 1, Insert: true})
		}
	}
	return list
}

// P1: no call panics at screens that aren't right, or at kinds of all numbers, of which no more is promised; what is handed in stays there, too.
func TestWrongArguments(t *testing.T) {
	list := append(wrongScreens(), drawn("a", 0), drawn("Oa/q.N", 1), filled(shape{127, 129}, "Oa.p."))
	for _, s := range list {
		was := grid.Copy(s)
		for _, s.Locked = range []bool{true, false} {
			for _, k := range press {
				keys.Do(s, k)
			}
			for _, kind := range strange {
				keys.Do(s, api.Key{Kind: kind, Char: byte(kind)})
			}
		}
		if !grid.Same(s, was) {
			t.Fatalf("%d by %d, %d cells: not as it was", s.Rows, s.Cols, len(s.Cells))
		}
	}
}

// P1: no call panics at a screen that is right but for a cursor that is no cell, with any byte.
func TestWrongCursors(t *testing.T) {
	for _, picture := range pictures {
		size := len(drawn(picture, 0).Cells)
		for _, cursor := range []int{-1, size, -size, size + 1, most, half, -half, math.MaxInt, math.MinInt, math.MinInt + 1} {
			for kind := range kinds + 2 {
				for c := 0; c < 256; c += 5 {
					s := flagged(drawn(picture, cursor), c%4)
					keys.Do(s, api.Key{Kind: kind, Char: byte(c)})
					if !grid.Same(s, flagged(drawn(picture, cursor), c%4)) {
						t.Fatalf("%v: not as it was", s)
					}
				}
			}
		}
	}
}
