package grid_test

import (
	"math"
	"math/big"
	"slices"
	"testing"

	"shutter/api"
	"shutter/grid"
)

// behind is the n-th cell behind a, the sum taken without an end of numbers.
func behind(size, a, n int) int {
	sum := new(big.Int).Add(big.NewInt(int64(a)), big.NewInt(int64(n)))
	return int(sum.Mod(sum, big.NewInt(int64(size))).Int64())
}

// steps is how far On is asked to go among so many cells: a few, as many as there are and near by, and far outside.
func steps(size int) []int {
	list := []int{0, 1, 2, 3, size - 1, size, size + 1, 2*size - 1, 2 * size, 2*size + 1, 3*size + 2, 100 * size, most, most + 1, 65535, 65536, half - 1, half, half + 1, math.MaxInt32, math.MinInt32, math.MinInt, math.MinInt + 1, math.MinInt + size, math.MaxInt, math.MaxInt - 1, math.MaxInt - size}
	for _, n := range slices.Clone(list) {
		list = append(list, -n)
	}
	return list
}

// P10.2: On by every kind of step, from the first, a middle and the last cell, on screens of every shape.
func TestOn(t *testing.T) {
	for _, x := range slices.Concat(shapes, smalls) {
		s := filled(x)
		for _, a := range places(len(s.Cells)) {
			for _, n := range steps(len(s.Cells)) {
				if got, want := grid.On(s, a, n), behind(len(s.Cells), a, n); got != want {
					t.Fatalf("%d cells, %d behind %d: %d, not %d", len(s.Cells), n, a, got, want)
				}
			}
		}
	}
}

// P10.2: the document's examples, and steps around both ends, written out.
func TestOnWrittenOut(t *testing.T) {
	for _, x := range []struct{ rows, cols, a, n, want int }{
		{2, 3, 5, 1, 0}, {2, 3, 0, -1, 5}, {2, 3, 2, 1, 3}, {2, 3, 3, -1, 2}, {2, 3, 4, 0, 4}, {2, 3, 4, 6, 4}, {2, 3, 4, -6, 4}, {2, 3, 4, 13, 5}, {2, 3, 1, -13, 0},
		{1, 1, 0, 1, 0}, {1, 1, 0, -1, 0}, {1, 1, 0, math.MinInt, 0}, {1, 1, 0, math.MaxInt, 0}, {1, 5, 4, 1, 0}, {5, 1, 4, 1, 0}, {5, 1, 0, -1, 4},
		{24, 80, 1919, 1, 0}, {24, 80, 0, -1, 1919}, {24, 80, 79, 1, 80}, {24, 80, 40, 80, 120}, {24, 80, 40, -80, 1880},
		{1, most, 16382, 1, 0}, {1, most, 0, -1, 16382}, {1, most, 16382, 16382, 16381}, {127, 129, 16382, -16382, 0},
	} {
		if got := grid.On(blank(shape{x.rows, x.cols}), x.a, x.n); got != x.want {
			t.Errorf("%v: %d", x, got)
		}
	}
}

// P10.2: On by each number of steps is as many single steps, taken one by one, both ways.
func TestOnStepByStep(t *testing.T) {
	for _, x := range smalls {
		s := filled(x)
		for a := range s.Cells {
			there, back := a, a
			for n := range 3*len(s.Cells) + 2 {
				if grid.On(s, a, n) != there || grid.On(s, a, -n) != back {
					t.Fatalf("%d cells, %d from %d: %d, not %d, and back %d, not %d", len(s.Cells), n, a, grid.On(s, a, n), there, grid.On(s, a, -n), back)
				}
				there = (there + 1) % len(s.Cells)
				back--
				if back < 0 {
					back = len(s.Cells) - 1
				}
			}
		}
	}
}

// P10.4: a step on and one back is none, either way; as many as there are cells lead back, both ways.
func TestOnThereAndBack(t *testing.T) {
	for _, x := range slices.Concat(shapes, smalls) {
		s := blank(x)
		for a := range s.Cells {
			for _, n := range []int{1, 2, len(s.Cells), math.MaxInt, -1} {
				if grid.On(s, grid.On(s, a, n), -n) != a {
					t.Fatalf("%d cells: %d on and back from %d is %d", len(s.Cells), n, a, grid.On(s, grid.On(s, a, n), -n))
				}
			}
			if grid.On(s, a, len(s.Cells)) != a || grid.On(s, a, -len(s.Cells)) != a || grid.On(s, a, 0) != a {
				t.Fatalf("%d cells: all around from %d: %d, and back %d", len(s.Cells), a, grid.On(s, a, len(s.Cells)), grid.On(s, a, -len(s.Cells)))
			}
		}
	}
}

// P10.4: as many single steps as there are cells meet each cell once, and lead back.
func TestOnMeetsAll(t *testing.T) {
	for _, x := range shapes {
		s := blank(x)
		for _, step := range []int{1, -1} {
			seen, at := make([]bool, len(s.Cells)), len(s.Cells)/2
			for range s.Cells {
				at = grid.On(s, at, step)
				if at < 0 || at >= len(s.Cells) || seen[at] {
					t.Fatalf("%d cells: %d comes twice, or isn't there", len(s.Cells), at)
				}
				seen[at] = true
			}
			if at != len(s.Cells)/2 {
				t.Fatalf("%d cells: all around is %d", len(s.Cells), at)
			}
		}
	}
}

// P10.2, P10.4: Span from each cell up to each other one and to itself.
func TestSpan(t *testing.T) {
	for _, x := range smalls {
		s := filled(x)
		for a := range s.Cells {
			for b := range s.Cells {
				checkSpan(t, s, a, b)
			}
		}
	}
	for _, x := range shapes {
		s := filled(x)
		last := len(s.Cells) - 1
		list := []int{0, last / 3, last / 2, last, max(last-1, 0), min(last, 1)}
		for _, a := range list {
			for _, b := range list {
				checkSpan(t, s, a, b)
			}
		}
	}
}

// P10.2: spans written out.
func TestSpanWrittenOut(t *testing.T) {
	s := blank(shape{2, 3})
	for _, x := range []struct {
		a, b int
		want []int
	}{
		{1, 3, []int{1, 2}}, {1, 2, []int{1}}, {0, 5, []int{0, 1, 2, 3, 4}}, {5, 0, []int{5}}, {4, 1, []int{4, 5, 0}}, {3, 2, []int{3, 4, 5, 0, 1}},
		{0, 0, []int{0, 1, 2, 3, 4, 5}}, {2, 2, []int{2, 3, 4, 5, 0, 1}}, {5, 5, []int{5, 0, 1, 2, 3, 4}},
	} {
		if got := grid.Span(s, x.a, x.b); !slices.Equal(got, x.want) {
			t.Errorf("from %d to %d: %v, not %v", x.a, x.b, got, x.want)
		}
	}
	if got := grid.Span(blank(shape{1, 1}), 0, 0); !slices.Equal(got, []int{0}) {
		t.Errorf("one cell: %v", got)
	}
}

// P10.2: neither On nor Span hangs on anything but how many cells there are.
func TestStepsOfAlikeSizes(t *testing.T) {
	odd := api.Screen{Rows: 4, Cols: 3, Cells: filled(shape{3, 4}).Cells, Cursor: 7, Locked: true, Insert: true}
	for _, s := range []api.Screen{blank(shape{3, 4}), blank(shape{12, 1}), odd} {
		for a := range 12 {
			for b := range 12 {
				checkSpan(t, s, a, b)
			}
			if got := grid.On(s, a, -25); got != behind(12, a, -25) {
				t.Errorf("%d: %d", a, got)
			}
		}
	}
}

// P10.5: On and Span change nothing of the screen; what Span answers is new each time.
func TestStepsMemory(t *testing.T) {
	for _, x := range smalls {
		s := filled(x)
		was := twin(s)
		for _, b := range places(len(s.Cells)) {
			grid.On(s, 0, b)
			first, second := grid.Span(s, 0, b), grid.Span(s, 0, b)
			if shares(first, second) {
				t.Fatalf("%d cells, up to %d: one memory", len(s.Cells), b)
			}
			for i := range first {
				first[i] = -1
			}
			_ = append(first, -1, -1)
			if !slices.Equal(second, walk(len(s.Cells), 0, b)) {
				t.Fatalf("%d cells, up to %d: %v", len(s.Cells), b, second)
			}
			checkSpan(t, s, 0, b)
		}
		if !alike(s, was) {
			t.Fatalf("%v, not %v", s, was)
		}
	}
}
