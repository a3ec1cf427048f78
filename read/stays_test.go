package read_test

import (
	"math"
	"slices"
	"testing"

	"shutter/api"
	"shutter/grid"
	"shutter/input"
	"shutter/order"
	"shutter/read"
)

// answers is lists of each kind that calls answered.
type answers struct {
	cells  [][]api.Cell
	fields [][]api.Entry
	orders [][]api.Order
	bytes  [][]byte
}

// call makes all calls, and keeps what they answer.
func (a *answers) call(s api.Screen) {
	for _, aid := range few {
		in, _ := read.Modified(s, aid)
		a.fields = append(a.fields, in.Fields)
		for _, f := range in.Fields {
			a.bytes = append(a.bytes, f.Text)
		}
		for _, cmd := range []int{api.CmdRead, api.CmdMod, api.CmdWrite} {
			reply, _ := read.Reply(s, cmd, aid)
			a.bytes = append(a.bytes, reply)
		}
	}
	image := read.Image(s)
	a.orders = append(a.orders, image)
	for _, o := range image {
		a.bytes = append(a.bytes, o.Text)
	}
}

// P18.4: what is handed in stays, the room behind the cells among it, and what is answered is new memory: no two lists of one answer, or of several, share any.
func TestAnswersAreNew(t *testing.T) {
	for _, picture := range pictures {
		whole := drawn(picture, 0)
		room := append(whole.Cells, cellOf('a'), cellOf('O'), cellOf('.'))
		was := slices.Clone(room)
		all := answers{cells: [][]api.Cell{room}}
		for cursor := range whole.Cells {
			for n := range 4 {
				s := flagged(drawn(picture, cursor), n)
				s.Cells = room[:len(whole.Cells)]
				given := s
				all.call(s)
				if !slices.Equal(room, was) || !grid.Same(s, given) {
					t.Fatalf("%s: %v, not %v", picture, room, was)
				}
			}
		}
		if !apart(all.cells) || !apart(all.fields) || !apart(all.orders) || !apart(all.bytes) {
			t.Fatalf("%s: some in one memory", picture)
		}
	}
}

// spoil writes into a list, and behind it.
func spoil[T any](list []T, with T) {
	for i := range list {
		list[i] = with
	}
	_ = append(list, with)
}

// spoilAll writes into what the calls answered.
func spoilAll(a *answers) {
	for _, b := range a.bytes {
		spoil(b, 0x5c)
	}
	for _, l := range a.fields {
		spoil(l, api.Entry{Addr: 77, Text: []byte{0x5c}})
	}
	for _, l := range a.orders {
		spoil(l, api.Order{Kind: api.Tab, Text: []byte{0x5c}})
	}
}

// P18.4: what is done to answers isn't seen in what was handed in, or in the next answers; what is done to the screen isn't seen in the answers that it gave.
func TestAnswersAreKeptApart(t *testing.T) {
	for i, picture := range pictures {
		for cursor := range drawn(picture, 0).Cells {
			s, was := flagged(drawn(picture, cursor), i%4), flagged(drawn(picture, cursor), i%4)
			var all answers
			all.call(s)
			in, _ := read.Modified(s, 0x7d)
			image := read.Image(s)
			reply, _ := read.Reply(s, api.CmdMod, 0x7d)
			write, _ := read.Reply(s, api.CmdRead, 0x7d)
			spoilAll(&all)
			if !grid.Same(s, was) {
				t.Fatalf("%v, not %v", s, was)
			}
			spoil(s.Cells, cellOf('Q'))
			wantIn, _ := submitted(was, 0x7d)
			wantReply, _ := replied(was, api.CmdMod, 0x7d)
			wantWrite, _ := replied(was, api.CmdRead, 0x7d)
			if !input.Same(in, wantIn) || !slices.EqualFunc(image, pictured(was), order.Same) || !slices.Equal(reply, wantReply) || !slices.Equal(write, wantWrite) {
				t.Fatalf("%v: %v, %v, %x, %x", was, in, image, reply, write)
			}
		}
	}
}

// P18.4: what is handed in stays beside each answer, an error or not; the same call answers the same again.
func TestHandedInStays(t *testing.T) {
	everyDesk(func(s api.Screen) {
		was := grid.Copy(s)
		for _, aid := range few {
			first, err := read.Modified(s, aid)
			second, again := read.Modified(s, aid)
			if !input.Same(first, second) || api.Code(err) != api.Code(again) {
				t.Fatalf("%v, %x: %v, then %v", s, aid, first, second)
			}
			for _, cmd := range []int{api.CmdRead, api.CmdMod, api.CmdClean} {
				b, err := read.Reply(s, cmd, aid)
				c, again := read.Reply(s, cmd, aid)
				if !slices.Equal(b, c) || api.Code(err) != api.Code(again) {
					t.Fatalf("%v, %x, %x: %x, then %x", s, cmd, aid, b, c)
				}
			}
		}
		if !slices.EqualFunc(read.Image(s), read.Image(s), order.Same) || !grid.Same(s, was) {
			t.Fatalf("%v, not %v", s, was)
		}
	})
}

// P18.4: great screens stay, too, also where the reply is too long.
func TestGreatScreensStay(t *testing.T) {
	for _, x := range great {
		for _, picture := range []string{"ab.", "Oa.b", "P", "qa.Nb"} {
			s, was := filled(x, picture), filled(x, picture)
			var all answers
			all.call(s)
			if !grid.Same(s, was) || !apart(all.fields) || !apart(all.orders) || !apart(all.bytes) {
				t.Fatalf("%v, %s: not as it was, or some in one memory", x, picture)
			}
		}
	}
}

// wrongScreens is screens that aren't right: without cells, with more or fewer than rows and columns tell, with a cursor that is none, with cells that aren't right.
func wrongScreens() []api.Screen {
	list := []api.Screen{{}, {Cells: []api.Cell{}, Cursor: -1}, {Rows: 24, Cols: 80, Cursor: 5, Insert: true}, {Rows: math.MaxInt, Cols: math.MinInt, Cursor: math.MinInt}}
	for _, n := range []int{1, 5, most + 1, 20000} {
		for i, cursor := range []int{-1, n, -n, 0, n - 1, math.MaxInt, math.MinInt} {
			for _, picture := range []string{"a.", "O", "P.", "aQbn."} {
				s := filled(shape{1, n}, picture)
				s.Rows, s.Cols, s.Cursor, s.Insert = i-1, n+1, cursor, i%2 == 0
				list = append(list, s)
			}
		}
	}
	for _, c := range []api.Cell{{Char: 1}, {Char: 0xff}, {Char: 0x11}, {Field: true, Char: 0xc1}, {Attr: api.Attr{Protected: true, Modified: true}}, {Field: true, Attr: api.Attr{Show: 4, Modified: true}}, {Field: true, Attr: api.Attr{Modified: true, Show: math.MinInt}, Char: 0xff}} {
		for cursor := range 5 {
			list = append(list, api.Screen{Rows: 1, Cols: 3, Cells: []api.Cell{c, {Char: 0xc1}, c}, Cursor: cursor - 1}, api.Screen{Rows: 3, Cols: 1, Cells: []api.Cell{{}, c, {Field: true, Attr: api.Attr{Modified: true}}}, Cursor: cursor - 1, Insert: true})
		}
	}
	return list
}

// P1: no call panics at screens that aren't right, with commands of all numbers, of which no more is promised; what is handed in stays there, too.
func TestWrongArguments(t *testing.T) {
	list := append(wrongScreens(), drawn("a", 0), drawn("Oa/q.N", 1), filled(shape{127, 129}, "Oa.p."))
	for _, s := range list {
		was := grid.Copy(s)
		for _, s.Locked = range []bool{true, false} {
			new(answers).call(s)
			for _, cmd := range strange {
				read.Reply(s, cmd, byte(cmd))
			}
		}
		if !grid.Same(s, was) {
			t.Fatalf("%d by %d, %d cells: not as it was", s.Rows, s.Cols, len(s.Cells))
		}
	}
}

// P1: no call panics at a screen that is right but for a cursor that is no cell, with any byte.
func TestWrongCursors(t *testing.T) {
	for _, picture := range pictures {
		size := len(drawn(picture, 0).Cells)
		for _, cursor := range []int{-1, size, -size, size + 1, most, half, -half, math.MaxInt, math.MinInt, math.MinInt + 1} {
			s := drawn(picture, cursor)
			read.Image(s)
			for aid := range 256 {
				read.Modified(s, byte(aid))
				for _, cmd := range []int{api.CmdRead, api.CmdMod, aid} {
					read.Reply(s, cmd, byte(aid))
				}
			}
			if !grid.Same(s, drawn(picture, cursor)) {
				t.Fatalf("%v: not as it was", s)
			}
		}
	}
}

// P1: no call panics at screens whose cells and bytes are of all kinds, right or not.
func TestWrongCells(t *testing.T) {
	for n := range 256 {
		for _, picture := range []string{"abc", "aOb", "OO.", "P"} {
			s := drawn(picture, 0)
			for i := range s.Cells {
				s.Cells[i].Char, s.Cells[i].Attr.Show = byte(n*(i+1)), n-2
			}
			new(answers).call(s)
		}
	}
}
