package host_test

import (
	"testing"

	"shutter/api"
)

// wrote is a Write or an Erase, the picture and cursor ahead of it, and those behind it.
type wrote struct {
	picture string
	cursor  int
	o       api.Out
	want    string
	to      int
}

// checkWrote holds Do against what is written out, with and without Alarm and Unlock, which let the cells and the cursor be: Locked and Insert stay, but with Unlock.
func checkWrote(t *testing.T, list []wrote) {
	t.Helper()
	for _, x := range list {
		for flags := range 4 {
			for n := range 4 {
				x.o.Wcc.Unlock, x.o.Wcc.Alarm = n&1 != 0, n&2 != 0
				want := flagged(drawn(x.want, x.to), flags)
				if x.o.Wcc.Unlock {
					want.Locked, want.Insert = false, false
				}
				checkScreen(t, flagged(drawn(x.picture, x.cursor), flags), x.o, want)
			}
		}
	}
}

// write, fresh and redo are commands that write: as it stands, with Reset, and an Erase.
func write(l ...api.Order) api.Out { return api.Out{Cmd: api.CmdWrite, Orders: l} }
func fresh(l ...api.Order) api.Out {
	return api.Out{Cmd: api.CmdWrite, Wcc: api.Wcc{Reset: true}, Orders: l}
}
func redo(l ...api.Order) api.Out { return api.Out{Cmd: api.CmdErase, Orders: l} }

// P13.1: Write, written out: without orders, with one and with many, from the cursor on at the first, a middle and the last cell; the cursor stays, but where an order sets it.
func TestWrite(t *testing.T) {
	checkWrote(t, []wrote{
		{"a", 0, write(), "a", 0}, {"O", 0, write(), "O", 0}, {"oaPbN", 3, write(), "oaPbN", 3}, {".....", 4, write(), ".....", 4},
		{".....", 0, write(text("a")), "a....", 0}, {".....", 2, write(text("ab")), "..ab.", 2}, {".....", 4, write(text("ab")), "b...a", 4},
		{"oaPbN", 1, write(text("cd")), "ocdbN", 1}, {"oaPbN", 0, write(start('q')), "qaPbN", 0}, {"oaPbN", 4, write(start('O')), "oaPbO", 4},
		{"abcde", 3, write(cursor), "abcde", 3}, {"abcde", 3, write(set(1), cursor), "abcde", 1}, {"abcde", 3, write(cursor, set(1)), "abcde", 3},
		{"abcde", 3, write(repeat(0, star)), "abc**", 3}, {"abcde", 3, write(repeat(3, star)), "*****", 3}, {"oabpc", 2, write(erase(2)), "o..pc", 2}, {"oabpc", 2, write(erase(4)), "oa.pc", 2},
		{".o.N.", 0, write(tab, cursor), ".o.N.", 2}, {".o.N.", 2, write(tab, cursor), ".o.N.", 4}, {".o.N.", 4, write(tab, cursor), ".o.N.", 0},
		{"..........", 8, write(text("a"), start('P'), text("bc"), start('O'), cursor, text("de"), set(7), text("f")), "bcOde..faP", 3},
		{"oabpcQd", 6, write(start('n'), set(1), cursor, tab, text("e"), erase(3), repeat(4, star)), "e..*cQn", 1},
	})
}

// P13.1: Write with Reset, written out: no attribute is Modified any more, open or protected, but what an order behind it makes so stays.
func TestWriteWithReset(t *testing.T) {
	checkWrote(t, []wrote{
		{"O", 0, fresh(), "o", 0}, {"Q", 0, fresh(), "q", 0}, {"abc", 2, fresh(), "abc", 2}, {"opnq", 1, fresh(), "opnq", 1},
		{"OaPbNcQd", 3, fresh(), "oapbncqd", 3}, {"aO.pbQ.nN", 8, fresh(), "ao.pbq.nn", 8},
		{"OaPbN", 2, fresh(start('O')), "oaObn", 2}, {"OaPbN", 2, fresh(start('Q')), "oaQbn", 2}, {"OaPbN", 0, fresh(start('N'), set(4), start('p')), "Napbp", 0},
		{"OaPbN", 3, fresh(text("cd")), "oapcd", 3}, {".....", 3, fresh(start('N'), start('P'), start('Q')), "Q..NP", 3},
		{"OaPbN", 1, fresh(start('O'), text("c"), start('P'), set(1), cursor), "oOcPn", 1},
	})
}

// P13.1: Erase, written out: whatever stood there and wherever the cursor was, the orders are done from 0 on, with Reset and without.
func TestErase(t *testing.T) {
	list := []wrote{
		{"a", 0, redo(), ".", 0}, {"P", 0, redo(), ".", 0}, {"abcde", 3, redo(), ".....", 0}, {"OaPbN", 4, redo(), ".....", 0}, {".....", 1, redo(), ".....", 0},
		{"abcde", 3, redo(text("ab")), "ab...", 0}, {"OaPbN", 4, redo(text("ab")), "ab...", 0}, {"OaPbN", 2, redo(start('O')), "O....", 0}, {"OaPbN", 2, redo(set(3), start('Q')), "...Q.", 0},
		{"abcde", 4, redo(cursor), ".....", 0}, {"abcde", 4, redo(set(3), cursor), ".....", 3}, {"abcde", 2, redo(repeat(3, star)), "***..", 0}, {"abcde", 2, redo(repeat(0, star)), "*****", 0}, {"abcde", 2, redo(erase(4)), ".....", 0},
		{".o.N.", 4, redo(tab, cursor), ".....", 0}, {".o.N.", 1, redo(set(4), tab, text("a")), "a....", 0},
		{"QaPbNcOdef", 7, redo(start('P'), text("ab"), start('O'), cursor, text("de"), set(7), text("f")), "PabOde.f..", 4},
		{"pabcd", 3, redo(text("abcdefg"), start('N'), cursor), "fgNde", 3},
	}
	checkWrote(t, list)
	for i := range list {
		list[i].o.Wcc.Reset = true
	}
	checkWrote(t, list)
}

// P13.1: Write and Erase of every small screen, with all that they tell besides, without orders and with one.
func TestWritesOfEveryScreen(t *testing.T) {
	everyScreen(func(s api.Screen) {
		for _, cmd := range writers {
			for _, w := range wccs() {
				checkDo(t, s, api.Out{Cmd: cmd, Wcc: w})
				for _, x := range orders(len(s.Cells)) {
					checkDo(t, s, api.Out{Cmd: cmd, Wcc: w, Orders: []api.Order{x}})
				}
			}
		}
	}, shape{1, 1}, shape{1, 2}, shape{2, 1}, shape{3, 1})
}

// P13.1: Write and Erase with each run of two and three orders.
func TestWritesOfManyOrders(t *testing.T) {
	for n, picture := range []string{"abcde", "OaPbN", "QabOc", ".oN.p"} {
		for cursor := range 5 {
			s := flagged(drawn(picture, cursor), (n+cursor)%4)
			for i, a := range orders(5) {
				for j, b := range orders(5) {
					if a.Kind == api.Text && b.Kind == api.Text {
						continue // no right command
					}
					for k, c := range []api.Order{tab, start('O'), erase(3), repeat(1, 0)} {
						w := wccs()[(i+3*j+5*k)%8]
						checkDo(t, s, api.Out{Cmd: writers[0], Wcc: w, Orders: []api.Order{a, b, c}[:2+k%2]})
						checkDo(t, s, api.Out{Cmd: writers[1], Wcc: w, Orders: []api.Order{a, b, c}})
					}
				}
			}
		}
	}
}

// P13.1: the attribute of a field, of each kind, behind Write with Reset and without, and behind an order that makes it ahead of that and behind it.
func TestWriteOfEachAttribute(t *testing.T) {
	for _, a := range attrs() {
		was := drawn("a.b", 2)
		was.Cells[1] = api.Cell{Field: true, Attr: a}
		checkScreen(t, was, write(), was)
		x := api.Order{Kind: api.Start, Attr: a}
		for _, reset := range []bool{false, true} {
			made := drawn("OaP", 1)
			want := drawn("OaP", 1)
			if reset {
				want = drawn("oap", 1)
			}
			want.Cells[1] = api.Cell{Field: true, Attr: a}
			checkScreen(t, made, api.Out{Cmd: api.CmdWrite, Wcc: api.Wcc{Reset: reset}, Orders: []api.Order{x}}, want)
		}
		want := drawn("a.b", 2)
		want.Cells[1] = api.Cell{Field: true, Attr: api.Attr{Protected: a.Protected, Numeric: a.Numeric, Show: a.Show}}
		checkScreen(t, was, fresh(), want)
	}
}

// P13.1: Write and Erase in short addresses and long ones, from and to the first, a middle and the last cell, and of as many cells as there may be.
func TestWritesOfGreatScreens(t *testing.T) {
	pictures := []string{"a", "OaPb", "Q", "ab.Oc.pd."}
	for n, x := range sizes {
		size := x.rows * x.cols
		for i, at := range []int{0, size / 2, size - 1} {
			s := filled(x, pictures[(n+i)%4])
			s.Cursor = at
			for j, cmd := range writers {
				for k, o := range orders(size) {
					checkDo(t, flagged(s, j+k), api.Out{Cmd: cmd, Wcc: wccs()[(i+j+k)%8], Orders: []api.Order{start('P'), o, start('O'), text("cd")}})
				}
			}
		}
	}
}

// P13.1: commands of just as many bytes as there may be.
func TestWritesOfMostBytes(t *testing.T) {
	var sets []api.Order
	for i := range 2730 {
		sets = append(sets, set(i%1920))
	}
	s := flagged(filled(shape{24, 80}, "OaPb"), 3)
	s.Cursor = 1918
	for _, cmd := range writers {
		for _, l := range [][]api.Order{sets, append(sets[:2729:2729], cursor, cursor, text("a")), {{Kind: api.Text, Text: make([]byte, 8190)}}} {
			checkDo(t, s, api.Out{Cmd: cmd, Wcc: api.Wcc{Unlock: true, Reset: true}, Orders: l})
		}
	}
}
