package paint_test

import (
	"testing"

	"shutter/api"
	"shutter/paint"
)

// someOrders is right orders of all kinds for a screen of five cells.
func someOrders() []api.Order {
	return []api.Order{cursor, tab, start('n'), start('q'), text("a"), text("bcdefg"), set(0), set(3), repeat(1, star), repeat(4, 0), erase(2), erase(4)}
}

// P12.2: all runs of up to three orders, from each cell of some screens.
func TestAllRuns(t *testing.T) {
	for _, picture := range []string{".....", "abcde", "oa.qb", "p.oon", "ab.cm"} {
		s := drawn(picture)
		s.Cursor, s.Locked, s.Insert = 2, picture[0] == 'a', picture[0] == 'o'
		for at := range s.Cells {
			checkAll(t, s, at, nil)
			checkAll(t, s, at, []api.Order{})
			for _, a := range someOrders() {
				checkAll(t, s, at, []api.Order{a})
				for _, b := range someOrders() {
					checkAll(t, s, at, []api.Order{a, b})
					for _, c := range someOrders() {
						checkAll(t, s, at, []api.Order{a, b, c})
					}
				}
			}
		}
	}
}

// P12.2: each order of all is done as by One behind the ones ahead of it.
func TestAllAsOneByOne(t *testing.T) {
	l := []api.Order{start('p'), text("abc"), start('n'), cursor, text("de"), start('q'), repeat(9, star), tab, text("f"), erase(7), set(8), text("ghiabcdefgh"), tab, start('o'), repeat(0, 0), erase(0)}
	for _, x := range []shape{{1, 10}, {2, 5}, {5, 2}, {3, 7}, {24, 80}} {
		for _, picture := range []string{".", "ab.oc", "q....o..p"} {
			s := filled(x, picture)
			for _, from := range []int{0, 4, 8, len(s.Cells) - 1} {
				want, at := s, from
				for n := range l {
					var err error
					if want, at, err = paint.One(want, at, l[n]); err != nil {
						t.Fatal(err)
					}
					got, to, err := paint.All(s, from, l[:n+1])
					if err != nil || to != at || !alike(got, want) {
						t.Fatalf("%v from %d, %v: %v at %d (%v), not %v at %d", s, from, l[:n+1], got, to, err, want, at)
					}
				}
				checkAll(t, s, from, l)
			}
		}
	}
}

// P12.2: a screen made by many orders, written out.
func TestAllWrittenOut(t *testing.T) {
	s := drawn("iiiiiiiiii")
	s.Cursor, s.Locked = 9, true
	want := drawn("pabnd.qcoi")
	want.Cursor, want.Locked = 4, true
	got, at, err := paint.All(s, 0, []api.Order{
		start('p'), text("ab"), start('n'), cursor, repeat(6, star), start('q'), text("c"), start('o'),
		set(3), tab, text("d"), erase(6),
	})
	if err != nil || at != 6 || !alike(got, want) {
		t.Errorf("%v at %d (%v)", got, at, err)
	}
}

// P12.2: thousands of orders on a screen of as many cells as there may be.
func TestAllOfMany(t *testing.T) {
	for _, x := range great {
		s := filled(x, "o.......a")
		var l []api.Order
		var long []byte
		for i := range 8000 {
			c := chars()[i%len(chars())]
			l = append(l, api.Order{Kind: api.Text, Text: []byte{c}})
			long = append(long, c)
		}
		want, to := done(s, most-5, api.Order{Kind: api.Text, Text: long})
		got, at, err := paint.All(s, most-5, l)
		if err != nil || at != to || !alike(got, want) {
			t.Errorf("%d by %d: at %d (%v)", x.rows, x.cols, at, err)
		}
	}
}
