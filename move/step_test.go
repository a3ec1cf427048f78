package move_test

import (
	"testing"

	"shutter/api"
	"shutter/grid"
	"shutter/move"
)

// P15.1: the document's example: Up on a screen of one row; Down there, and Left and Right on one of one cell, as well.
func TestNoWayToGo(t *testing.T) {
	for _, picture := range []string{"a", "abc", "oa.pb", "p"} {
		for cursor := range picture {
			checkMove(t, drawn(picture, cursor), api.KeyUp, cursor)
			checkMove(t, drawn(picture, cursor), api.KeyDown, cursor)
		}
	}
	for _, picture := range []string{"a", ".", "o", "P"} {
		checkMove(t, drawn(picture, 0), api.KeyLeft, 0)
		checkMove(t, drawn(picture, 0), api.KeyRight, 0)
	}
}

// P15.1: Left, Right, Up and Down from each cell, written out, whatever stands in the cells; Left and Right go on to other rows, and all go around the screen's ends.
func TestSteps(t *testing.T) {
	for _, x := range []struct {
		pictures              []string
		left, right, up, down []int
	}{
		{[]string{"..", "oa", "pq"}, []int{1, 0}, []int{1, 0}, []int{0, 1}, []int{0, 1}},
		{[]string{"./a", "o/.", "p/n"}, []int{1, 0}, []int{1, 0}, []int{1, 0}, []int{1, 0}},
		{[]string{"a.b.", "oaqb", "pppp"}, []int{3, 0, 1, 2}, []int{1, 2, 3, 0}, []int{0, 1, 2, 3}, []int{0, 1, 2, 3}},
		{[]string{"a/././.", "p/a/o/b"}, []int{3, 0, 1, 2}, []int{1, 2, 3, 0}, []int{3, 0, 1, 2}, []int{1, 2, 3, 0}},
		{[]string{"ab/..", "oa/nb", "q./pn"}, []int{3, 0, 1, 2}, []int{1, 2, 3, 0}, []int{2, 3, 0, 1}, []int{2, 3, 0, 1}},
		{[]string{"abc/def", "o../p..", "onm/qqq"}, []int{5, 0, 1, 2, 3, 4}, []int{1, 2, 3, 4, 5, 0}, []int{3, 4, 5, 0, 1, 2}, []int{3, 4, 5, 0, 1, 2}},
		{[]string{"ab/cd/ef", "o./.p/.n", "Q./../pp"}, []int{5, 0, 1, 2, 3, 4}, []int{1, 2, 3, 4, 5, 0}, []int{4, 5, 0, 1, 2, 3}, []int{2, 3, 4, 5, 0, 1}},
		{[]string{"abc/.../d.e", "oa./pb./n.."}, []int{8, 0, 1, 2, 3, 4, 5, 6, 7}, []int{1, 2, 3, 4, 5, 6, 7, 8, 0}, []int{6, 7, 8, 0, 1, 2, 3, 4, 5}, []int{3, 4, 5, 6, 7, 8, 0, 1, 2}},
	} {
		for i, picture := range x.pictures {
			for cursor := range x.left {
				s := flagged(drawn(picture, cursor), i&2)
				checkMove(t, s, api.KeyLeft, x.left[cursor])
				checkMove(t, s, api.KeyRight, x.right[cursor])
				checkMove(t, s, api.KeyUp, x.up[cursor])
				checkMove(t, s, api.KeyDown, x.down[cursor])
			}
		}
	}
}

// P15.1: on a terminal's screen: at its corners, along its edges and within it.
func TestStepsOnTwentyFourByEighty(t *testing.T) {
	s, err := grid.New(24, 80)
	if err != nil {
		t.Fatal(err)
	}
	for _, x := range []struct{ at, left, right, up, down int }{
		{0, 1919, 1, 1840, 80}, {1, 0, 2, 1841, 81}, {79, 78, 80, 1919, 159}, {80, 79, 81, 0, 160}, {159, 158, 160, 79, 239}, {1000, 999, 1001, 920, 1080},
		{1839, 1838, 1840, 1759, 1919}, {1840, 1839, 1841, 1760, 0}, {1880, 1879, 1881, 1800, 40}, {1919, 1918, 0, 1839, 79},
	} {
		s.Cursor = x.at
		for i, to := range []int{x.left, x.right, x.up, x.down} {
			checkMove(t, s, steps[i], to)
		}
	}
}

// P15.1, P15.2: as many rights or lefts as cells, and as many ups or downs as rows, lead back, and to no cell twice till then.
func TestStepsLeadBack(t *testing.T) {
	for n, x := range append(smalls, shape{24, 80}, shape{7, 3}, shape{4, 9}) {
		s := filled(x, pictures[n][:1])
		for _, s.Cursor = range []int{0, len(s.Cells) / 2, len(s.Cells) - 1} {
			for _, kind := range steps {
				way := x.rows
				if kind == api.KeyLeft || kind == api.KeyRight {
					way = len(s.Cells)
				}
				behind, been := s, map[int]int{}
				for range way {
					been[behind.Cursor]++
					behind = moved(t, behind, kind)
				}
				if !grid.Same(behind, s) || len(been) != way {
					t.Fatalf("%v, %d: at %d, not %d, past %d cells, not %d", x, kind, behind.Cursor, s.Cursor, len(been), way)
				}
			}
		}
	}
}

// P15.2: Left undoes Right, Up undoes Down, and the other way round; on other kinds of screens, too.
func TestStepsUndo(t *testing.T) {
	check := func(s api.Screen) {
		for _, x := range [][]int{{api.KeyLeft, api.KeyRight}, {api.KeyRight, api.KeyLeft}, {api.KeyUp, api.KeyDown}, {api.KeyDown, api.KeyUp}} {
			if got := moved(t, s, x...); !grid.Same(got, s) {
				t.Fatalf("%v, %v: %v", brief(s), x, brief(got))
			}
		}
	}
	everyDesk(check)
	for i, x := range great {
		s := filled(x, pictures[len(pictures)-1-i][:2])
		last := len(s.Cells) - 1
		for _, s.Cursor = range []int{0, 1, x.cols - 1, last / 2, last - x.cols + 1, last - 1, last} {
			check(s)
		}
	}
}

// P15.1: the steps on screens of the greatest size, by the document's words.
func TestStepsOnGreatScreens(t *testing.T) {
	for _, x := range great {
		for _, picture := range []string{".", "oa.pb"} {
			s := filled(x, picture)
			last := len(s.Cells) - 1
			for _, s.Cursor = range []int{0, 1, x.cols - 1, x.cols % (last + 1), last / 2, last - x.cols + 1, last - 1, last} {
				for _, kind := range steps {
					checkMove(t, s, kind, goal(s, kind))
				}
			}
		}
	}
}

// P15.1, P15.2: each move on every small screen, and on each picture, from each cell, with Insert and without, by the document's words: the cursor alone changes.
func TestMovesOnEveryScreen(t *testing.T) {
	everyDesk(func(s api.Screen) {
		for _, kind := range moves {
			checkMove(t, s, kind, goal(s, kind))
			if got, _ := move.Do(s, kind); !grid.Right(got) {
				t.Fatalf("%v, %d: %v isn't right", s, kind, got)
			}
		}
	})
}

// P15.2: many moves, one behind the other, each where the document's words tell; but the cursor nothing changes.
func TestManyMoves(t *testing.T) {
	for i, picture := range pictures {
		s := flagged(drawn(picture, 0), i&2)
		first := grid.Copy(s)
		mix := uint32(i)
		for range 2000 {
			mix = mix*1664525 + 1013904223
			kind := moves[mix>>20&7]
			checkMove(t, s, kind, goal(s, kind))
			s = moved(t, s, kind)
		}
		s.Cursor = 0
		if !grid.Same(s, first) {
			t.Fatalf("%s: %v", picture, s)
		}
	}
}
