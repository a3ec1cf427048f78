package host_test

import (
	"math"
	"slices"
	"testing"

	"shutter/api"
	"shutter/grid"
	"shutter/host"
	"shutter/stream"
)

// commands is right commands of all kinds, for so many cells.
func commands(size int) []api.Out {
	list := []api.Out{{Cmd: api.CmdClean}, {Cmd: api.CmdRead}, {Cmd: api.CmdMod}}
	for _, cmd := range writers {
		for i, w := range wccs() {
			list = append(list, api.Out{Cmd: cmd, Wcc: w})
			for j, x := range orders(size) {
				y := orders(size)[(i+3*j)%8]
				list = append(list, api.Out{Cmd: cmd, Wcc: w, Orders: []api.Order{x, tab, y}})
			}
		}
	}
	return list
}

// P13.3: a right screen stays right, with as many rows and columns, behind each right command.
func TestScreensStayRight(t *testing.T) {
	everyScreen(func(s api.Screen) {
		for _, o := range commands(len(s.Cells)) {
			got, err := host.Do(s, o)
			if err != nil || !grid.Right(got) || got.Rows != s.Rows || got.Cols != s.Cols {
				t.Fatalf("%v, %v: %v (%v)", s, o, got, err)
			}
		}
	}, shape{1, 1}, shape{1, 2}, shape{2, 1})
}

// P13.3: a right screen stays right behind many commands, too, some of which aren't.
func TestScreensStayRightBehindMany(t *testing.T) {
	for _, x := range []shape{{1, 1}, {1, 5}, {4, 3}} {
		s := filled(x, "OaP")
		list := append(commands(len(s.Cells)), api.Out{}, api.Out{Cmd: api.CmdMod, Wcc: api.Wcc{Reset: true}})
		for i, r := range refusedOrders(len(s.Cells)) {
			list = append(list, api.Out{Cmd: writers[i%2], Wcc: wccs()[i%8], Orders: []api.Order{text("a"), r.order}})
		}
		mix := uint32(1)
		for range 20000 {
			mix = mix*1664525 + 1013904223
			o := list[int(mix>>8)%len(list)]
			want := s
			if _, wrong := stream.Write(o, len(s.Cells)); wrong == nil {
				want = done(s, o)
			}
			s, _ = host.Do(s, o)
			if !grid.Right(s) || !grid.Same(s, want) {
				t.Fatalf("%v: %v, not %v", o, s, want)
			}
			s.Locked, s.Insert = s.Locked || mix>>28&1 != 0, s.Insert || mix>>29&1 != 0
		}
	}
}

// P13.4: what is handed in stays, the room behind the cells and orders among it, and what is answered is new memory, also where nothing is changed.
func TestAnswersAreNew(t *testing.T) {
	for n, picture := range []string{"a", "O", "Q", "..", "abcde", "OaPbN", "p.oon"} {
		room := append(drawn(picture, 0).Cells, cellOf('a'), cellOf('O'))
		was := slices.Clone(room)
		s := flagged(drawn(picture, len(picture)-1), n)
		s.Cells = room[:len(picture)]
		answers := [][]api.Cell{room}
		for _, all := range []bool{false, true} {
			answers = append(answers, host.Reset(s, all).Cells, host.Reset(host.Reset(s, true), all).Cells)
		}
		for _, o := range commands(len(picture)) {
			given, wrong := cloned(o), cloned(o)
			given.Orders = append(given.Orders, api.Order{Kind: 9})[:len(o.Orders)]
			wrong.Cmd++
			got, err := host.Do(s, given)
			host.Do(s, wrong)
			if err != nil || !stream.Same(given, o) || !slices.Equal(room, was) || given.Orders[:len(o.Orders)+1][len(o.Orders)].Kind != 9 {
				t.Fatalf("%s, %v: %v, %v (%v)", picture, o, given, room, err)
			}
			answers = append(answers, got.Cells)
		}
		if !apart(answers) {
			t.Fatalf("%s: in one memory", picture)
		}
	}
}

// cloned is a command like o, in memory of its own.
func cloned(o api.Out) api.Out {
	o.Orders = slices.Clone(o.Orders)
	for i := range o.Orders {
		o.Orders[i].Text = slices.Clone(o.Orders[i].Text)
	}
	return o
}

// P13.4: what is done to an answer isn't seen in what was handed in, or in the next answer; and the other way round.
func TestAnswersAreKeptApart(t *testing.T) {
	for _, o := range commands(5) {
		s := flagged(drawn("OaPbN", 3), 3)
		given, want := cloned(o), done(s, o)
		first, _ := host.Do(s, given)
		second, _ := host.Do(s, given)
		for i := range first.Cells {
			first.Cells[i] = cellOf('i')
		}
		_ = append(first.Cells, cellOf('i'))
		if !grid.Same(s, flagged(drawn("OaPbN", 3), 3)) || !grid.Same(second, want) {
			t.Fatalf("%v: %v, and %v", o, s, second)
		}
		for i := range s.Cells {
			s.Cells[i] = cellOf('p')
		}
		for i := range given.Orders {
			for j := range given.Orders[i].Text {
				given.Orders[i].Text[j] = 0xf0
			}
			given.Orders[i] = api.Order{}
		}
		if !grid.Same(second, want) {
			t.Fatalf("%v: %v, not %v", o, second, want)
		}
	}
}

// P13.4: what is handed in stays beside an error, too.
func TestHandedInStaysBesideErrors(t *testing.T) {
	for _, r := range refusedOrders(5) {
		s := flagged(drawn("OaPbN", 3), 3)
		o := api.Out{Cmd: api.CmdErase, Wcc: wccs()[7], Orders: []api.Order{repeat(0, star), cursor, r.order, erase(2)}}
		was := cloned(o)
		host.Do(s, o)
		if !grid.Same(s, flagged(drawn("OaPbN", 3), 3)) || !stream.Same(o, was) {
			t.Errorf("%v: %v, %v", r.order, s, o)
		}
	}
}

// wrongScreens is screens that aren't right: without cells, with more or fewer than rows and columns tell, with a cursor that is none, with cells that aren't right.
func wrongScreens() []api.Screen {
	list := []api.Screen{{}, {Cells: []api.Cell{}, Cursor: -1}, {Rows: 24, Cols: 80, Cursor: 5}, {Rows: math.MaxInt, Cols: math.MinInt, Cursor: math.MinInt, Locked: true}}
	for _, n := range []int{1, 5, most + 1, 20000} {
		for i, cursor := range []int{-1, n, -n, math.MaxInt, math.MinInt} {
			s := filled(shape{1, n}, []string{"a", "O", "P.", "aObP"}[i%4])
			s.Rows, s.Cols, s.Cursor = i-1, n+1, cursor
			list = append(list, s)
		}
	}
	for _, c := range []api.Cell{{Char: 1}, {Char: 0xff}, {Field: true, Char: 0xc1}, {Attr: api.Attr{Protected: true, Modified: true}}, {Field: true, Attr: api.Attr{Show: 4, Modified: true}}, {Field: true, Attr: api.Attr{Protected: true, Show: math.MinInt}}} {
		list = append(list, api.Screen{Rows: 1, Cols: 3, Cells: []api.Cell{c, {Char: 0xc1}, c}}, api.Screen{Rows: 1, Cols: 3, Cells: []api.Cell{{Char: 0xc1}, c, {Field: true}}, Cursor: 3})
	}
	return list
}

// P1: no call panics at screens that aren't right, or at commands that are none, of which no more is promised; what is handed in stays there, too.
func TestWrongArguments(t *testing.T) {
	list := append(wrongScreens(), drawn("a", 0), drawn("OaPbN", 4), filled(shape{127, 129}, "OaP."))
	for _, s := range list {
		was, size := grid.Copy(s), len(s.Cells)
		outs := []api.Out{{}, {Cmd: -1}, {Cmd: math.MinInt, Wcc: wccs()[7]}, {Cmd: math.MaxInt, Orders: []api.Order{{}}}, {Cmd: api.CmdMod, Orders: []api.Order{cursor}}}
		for _, cmd := range []int{api.CmdWrite, api.CmdErase, api.CmdClean, api.CmdRead, api.CmdMod} {
			outs = append(outs, api.Out{Cmd: cmd}, api.Out{Cmd: cmd, Wcc: wccs()[7]})
			for _, x := range []api.Order{cursor, tab, start('Q'), text("ab*.cde"), set(0), set(size - 1), set(size), repeat(0, star), repeat(size-1, 0), repeat(-1, star), erase(0), erase(size), erase(math.MinInt), {}, {Kind: math.MaxInt}} {
				outs = append(outs, api.Out{Cmd: cmd, Orders: []api.Order{x}}, api.Out{Cmd: cmd, Wcc: wccs()[3], Orders: []api.Order{text("a"), cursor, tab, x}})
			}
		}
		for _, o := range outs {
			host.Do(s, o)
		}
		host.Reset(s, true)
		host.Reset(s, false)
		if !grid.Same(s, was) {
			t.Fatalf("%d by %d, %d cells: not as it was", s.Rows, s.Cols, size)
		}
	}
}
