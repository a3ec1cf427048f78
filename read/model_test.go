package read_test

import (
	"encoding/hex"
	"errors"
	"math"
	"math/bits"
	"slices"
	"strconv"
	"strings"
	"testing"

	"shutter/api"
	"shutter/input"
	"shutter/order"
	"shutter/read"
)

// most is as many cells as a screen has at most, longest as many bytes as a command or a submission has, by the document's words; none is a place that there isn't: of an error that is told alone.
const (
	most    = 16383
	longest = 8192
	none    = -1
)

// half is a number none of whose lower bits are set.
const half = 1 << (bits.UintSize / 2)

// strange is numbers that are no command that reads: near by, those of other commands, far off, and those whose lower bits are one's.
var strange = []int{0xf1, 0xf5, 0x6f, 0x60, 0x7d, 0xf3, 0xf7, -0xf2, -0xf6, 0x72, 0x76, 0x1f2, 0x1f6, 0xf2f2, 0xf6f6, 0xf2 - 256, 0xf6 - 256, half + 0xf2, half + 0xf6, -half + 0xf6, math.MaxInt, math.MaxInt - 1, math.MinInt, math.MinInt + 1, math.MinInt + 0xf2, math.MinInt + 0xf6}

// bares and tellers are the keys that ask, by the document's words: those that tell no fields, and the others.
var (
	bares   = []byte{0x6d, 0x6c, 0x6e, 0x6b}
	tellers = []byte{0x7d, 0xf1, 0xf2, 0xf3, 0xf4, 0xf5, 0xf6, 0xf7, 0xf8, 0xf9, 0x7a, 0x7b, 0x7c}
)

// few is keys of each sort: those that tell fields, bare ones, and bytes that are no key that asks.
var few = []byte{0x7d, 0xf1, 0x7c, 0x6d, 0x6c, 0x60, 0, 0xff}

// shape is rows and columns.
type shape struct{ rows, cols int }

// smalls is shapes of few cells, great is shapes of screens whose addresses are written short and long, about the edge between them, and of as many cells as there may be.
var (
	smalls = []shape{{1, 1}, {1, 2}, {2, 1}, {3, 1}, {1, 3}, {2, 2}}
	great  = []shape{{24, 80}, {64, 64}, {17, 241}, {1, most}, {most, 1}, {127, 129}}
)

// pictures is screens of many kinds: of one cell, one row, one column; not formatted; of fields that are Modified, one, many, all and none, open and protected; around the end, without cells, several side by side, also around the end, and of fields alone.
var pictures = []string{
	"a", ".", "O", "q", "-", "_", "..", "abc", "a.b.c", "a/b/c", ".../a..", "abc/.d./e.f", "oa", "aO", "Oabc", "o.ab", "o/a/b", "O/./b", "a/N/1", "n12.", "Pa.b", "Qa.b", "a.Oc", "abNc.", "abQc.", "P/a/Q/b",
	"oa.pb.", "OabqcN1", "o.q/Pb./nca", "OOa.", "oOQN.P", "a.Oq", "PqoNQ", "oO", "Oo", "OO", "P/Q", "ppp", "PPP", "Oa.Pb.Nc.Qd.", "oabcpd/.n12q./efgOhi", "c.Oqab", "ab.Oc.P.", "N.Q1oa.Qb", "O=-.N-=.P=-", "a_b^O_a.^", ".aO..", "O...", "..O", "bcOOO",
	"OOaO", "oabOOO", "OOOab", "a.OPNQ",
}

// cellOf is a cell of a picture.
func cellOf(b byte) api.Cell {
	switch b {
	case 'o', 'O':
		return api.Cell{Field: true, Attr: api.Attr{Show: 1, Modified: b == 'O'}}
	case 'n', 'N':
		return api.Cell{Field: true, Attr: api.Attr{Numeric: true, Modified: b == 'N'}}
	case 'p', 'P':
		return api.Cell{Field: true, Attr: api.Attr{Protected: true, Show: 3, Modified: b == 'P'}}
	case 'q', 'Q':
		return api.Cell{Field: true, Attr: api.Attr{Protected: true, Numeric: true, Show: 2, Modified: b == 'Q'}}
	}
	return api.Cell{Char: charOf(b)}
}

// charOf is a character of a picture: a dot is 0, = is Dup, - a field mark, _ the first of the others, ^ the last, a to i are letters, 0 to 9 digits.
func charOf(b byte) byte {
	switch b {
	case '.':
		return 0
	case '=':
		return 0x1c
	case '-':
		return 0x1e
	case '_':
		return 0x40
	case '^':
		return 0xfe
	}
	if b <= '9' {
		return 0xf0 + b - '0'
	}
	return 0xc1 + b - 'a'
}

// textOf is the characters of a picture.
func textOf(picture string) []byte {
	var list []byte
	for i := range len(picture) {
		list = append(list, charOf(picture[i]))
	}
	return list
}

// filled is a right screen of this shape, the picture laid on it again and again: o and n are open fields, p and q protected ones, n and q Numeric, large letters are Modified.
func filled(x shape, picture string) api.Screen {
	s := api.Screen{Rows: x.rows, Cols: x.cols, Cells: make([]api.Cell, x.rows*x.cols)}
	for i := range s.Cells {
		s.Cells[i] = cellOf(picture[i%len(picture)])
	}
	return s
}

// drawn is the right screen that a picture shows, with the cursor there; a slash ends a row.
func drawn(picture string, cursor int) api.Screen {
	rows := strings.Split(picture, "/")
	s := filled(shape{len(rows), len(rows[0])}, strings.Join(rows, ""))
	s.Cursor = cursor
	return s
}

// flagged is the screen Locked and with Insert, or without, as n tells: 0 to 3.
func flagged(s api.Screen, n int) api.Screen {
	s.Locked, s.Insert = n&1 != 0, n&2 != 0
	return s
}

// attrs is all attributes.
func attrs() []api.Attr {
	var list []api.Attr
	for n := range 32 {
		list = append(list, api.Attr{Protected: n&16 != 0, Numeric: n&8 != 0, Show: n >> 1 & 3, Modified: n&1 != 0})
	}
	return list
}

// numbered is the n-th screen of this shape of those whose cells each are Char 0, a letter, or a field, open or protected, Modified or not; what else they have is of all kinds.
func numbered(x shape, n int) api.Screen {
	s := api.Screen{Rows: x.rows, Cols: x.cols, Cells: make([]api.Cell, x.rows*x.cols)}
	for i, mix := 0, n; i < len(s.Cells); i, mix = i+1, mix/6 {
		switch kind := mix % 6; kind {
		case 0:
		case 1:
			s.Cells[i].Char = []byte{0xc1, 0x40, 0xf0, 0x1c, 0x1e, 0xfe}[(n+i)%6]
		default:
			s.Cells[i] = api.Cell{Field: true, Attr: api.Attr{Protected: kind&1 != 0, Modified: kind > 3, Numeric: (n+i)%2 == 0, Show: (n/3 + i) % 4}}
		}
	}
	return s
}

// everyDesk does something with each numbered screen of few cells, and with the pictures, the cursor on each cell, Locked and not, with Insert and without.
func everyDesk(do func(s api.Screen)) {
	each := func(s api.Screen) {
		for s.Cursor = range s.Cells {
			for n := range 4 {
				do(flagged(s, n))
			}
		}
	}
	for _, x := range smalls {
		count := 1
		for range x.rows * x.cols {
			count *= 6
		}
		for n := range count {
			each(numbered(x, n))
		}
	}
	for _, picture := range pictures {
		each(drawn(picture, 0))
	}
}

// everyGreat does something with great screens: of many fields, of one and of none, of fields alone, with letters and without, the cursor on the first, the second, a middle and the last cell.
func everyGreat(do func(s api.Screen)) {
	for _, x := range great {
		last := x.rows*x.cols - 1
		for _, picture := range []string{"ab.", "a", ".", "Oa.b", "qa.Nb", "O", "Pq", "OO.P"} {
			for _, begin := range []int{none, 0, last} {
				s := filled(x, picture)
				if begin != none {
					s.Cells[begin] = cellOf('O')
				}
				for _, s.Cursor = range []int{0, 1, last / 2, last} {
					do(s)
				}
			}
		}
	}
}

// ringText is the letters of the cells behind the one where a field begins, gone along till a field begins, around.
func ringText(s api.Screen, begin int) []byte {
	var text []byte
	for n := 1; ; n++ {
		c := s.Cells[(begin+n)%len(s.Cells)]
		switch {
		case c.Field:
			return text
		case c.Char != 0:
			text = append(text, c.Char)
		}
	}
}

// submitted is what Modified shall be: the submission, and the error's number, 0 of none.
func submitted(s api.Screen, aid byte) (api.In, api.Errno) {
	switch {
	case slices.Contains(bares, aid):
		return api.In{Aid: aid}, 0
	case !slices.Contains(tellers, aid):
		return api.In{}, api.ErrByte
	}
	in := api.In{Aid: aid, Cursor: s.Cursor}
	formatted := false
	var all []byte
	for i, c := range s.Cells {
		formatted = formatted || c.Field
		if c.Char != 0 {
			all = append(all, c.Char)
		}
		if c.Field && c.Attr.Modified {
			in.Fields = append(in.Fields, api.Entry{Addr: (i + 1) % len(s.Cells), Text: ringText(s, i)})
		}
	}
	if !formatted && len(all) > 0 {
		in.Fields = []api.Entry{{Addr: none, Text: all}}
	}
	return in, 0
}

// pictured is what Image shall be: the runs of characters are sought from their first ones on.
func pictured(s api.Screen) []api.Order {
	list := []api.Order{{Kind: 3}}
	for i := 0; i < len(s.Cells); {
		if s.Cells[i].Field {
			list = append(list, api.Order{Kind: 2, Attr: s.Cells[i].Attr})
			i++
			continue
		}
		var text []byte
		for ; i < len(s.Cells) && !s.Cells[i].Field; i++ {
			text = append(text, s.Cells[i].Char)
		}
		list = append(list, api.Order{Kind: 1, Text: text})
	}
	if s.Cursor > 0 {
		list = append(list, api.Order{Kind: 3, Addr: s.Cursor})
	}
	return append(list, api.Order{Kind: 4})
}

// graphics is the graphic bytes, by their numbers: read by the library, not by the layers below.
var graphics = func() []byte {
	b, err := hex.DecodeString(api.Graphic)
	if err != nil || len(b) != 64 {
		panic("no graphic bytes")
	}
	return b
}()

// place is an address's bytes, behind the byte that says that one comes.
func place(a, size int) []byte {
	if size <= 4096 {
		return []byte{graphics[a/64], graphics[a%64]}
	}
	return []byte{byte(a / 256), byte(a % 256)}
}

// label is an attribute's byte.
func label(a api.Attr) byte {
	n := a.Show * 4
	for _, x := range []struct {
		set  bool
		part int
	}{{a.Protected, 32}, {a.Numeric, 16}, {a.Modified, 1}} {
		if x.set {
			n += x.part
		}
	}
	return graphics[n]
}

// inBytes is a right submission's bytes, however many.
func inBytes(in api.In, size int) []byte {
	b := []byte{in.Aid}
	if !slices.Contains(bares, in.Aid) {
		b = append(b, place(in.Cursor, size)...)
	}
	for _, f := range in.Fields {
		if f.Addr != none {
			b = append(append(b, 0x11), place(f.Addr, size)...)
		}
		b = append(b, f.Text...)
	}
	return b
}

// writeBytes is the bytes of a write with an image's orders, however many.
func writeBytes(orders []api.Order, size int) []byte {
	b := []byte{0xf1, 0x40}
	for _, o := range orders {
		switch o.Kind {
		case 1:
			b = append(b, o.Text...)
		case 2:
			b = append(b, 0x1d, label(o.Attr))
		case 3:
			b = append(append(b, 0x11), place(o.Addr, size)...)
		case 4:
			b = append(b, 0x13)
		}
	}
	return b
}

// replied is what Reply shall be: the bytes, and the error's number, 0 of none.
func replied(s api.Screen, cmd int, aid byte) ([]byte, api.Errno) {
	var b []byte
	switch cmd {
	case 0xf2:
		b = writeBytes(pictured(s), len(s.Cells))
	case 0xf6:
		in, code := submitted(s, aid)
		if code != 0 {
			return nil, code
		}
		b = inBytes(in, len(s.Cells))
	default:
		return nil, api.ErrOrder
	}
	if len(b) > longest {
		return nil, api.ErrLong
	}
	return b, 0
}

// told is a submission's fields, as "2:ab -1:c" tells them: each one's address, and its letters.
func told(fields string) []api.Entry {
	var list []api.Entry
	for _, part := range strings.Fields(fields) {
		number, picture, _ := strings.Cut(part, ":")
		a, err := strconv.Atoi(number)
		if err != nil {
			panic("no address")
		}
		list = append(list, api.Entry{Addr: a, Text: textOf(picture)})
	}
	return list
}

// ordersOf is orders, as "@0 ab +O @2 !" tells them: Set of 0, a Text, a Start, Set of 2, Cursor.
func ordersOf(orders string) []api.Order {
	var list []api.Order
	for _, part := range strings.Fields(orders) {
		switch part[0] {
		case '@':
			a, err := strconv.Atoi(part[1:])
			if err != nil {
				panic("no address")
			}
			list = append(list, api.Order{Kind: 3, Addr: a})
		case '+':
			list = append(list, api.Order{Kind: 2, Attr: cellOf(part[1]).Attr})
		case '!':
			list = append(list, api.Order{Kind: 4})
		default:
			list = append(list, api.Order{Kind: 1, Text: textOf(part)})
		}
	}
	return list
}

// checkCode holds an error against the one of this number, 0 of none, told alone, without a place.
func checkCode(t *testing.T, s api.Screen, err error, code api.Errno) {
	t.Helper()
	var spot *api.Spot
	if code == 0 && err != nil || code != 0 && !errors.Is(err, code) || api.Code(err) != int(code) || errors.As(err, &spot) || api.Where(err) != none {
		t.Fatalf("%v: %v (%d at %d), not %d alone", brief(s), err, api.Code(err), api.Where(err), code)
	}
}

// checkModified holds Modified against this submission, and the error of this number, 0 of none.
func checkModified(t *testing.T, s api.Screen, aid byte, want api.In, code api.Errno) {
	t.Helper()
	got, err := read.Modified(s, aid)
	if !input.Same(got, want) {
		t.Fatalf("%v, %x: %v (%v), not %v", brief(s), aid, briefIn(got), err, briefIn(want))
	}
	checkCode(t, s, err, code)
}

// checkImage holds Image against these orders.
func checkImage(t *testing.T, s api.Screen, want []api.Order) {
	t.Helper()
	if got := read.Image(s); !slices.EqualFunc(got, want, order.Same) {
		t.Fatalf("%v: %v, not %v", brief(s), got[:min(12, len(got))], want[:min(12, len(want))])
	}
}

// checkReply holds Reply against these bytes, and the error of this number, 0 of none.
func checkReply(t *testing.T, s api.Screen, cmd int, aid byte, want []byte, code api.Errno) {
	t.Helper()
	got, err := read.Reply(s, cmd, aid)
	if !slices.Equal(got, want) {
		t.Fatalf("%v, %x, %x: %d bytes, %x (%v), not %d, %x", brief(s), cmd, aid, len(got), got[:min(24, len(got))], err, len(want), want[:min(24, len(want))])
	}
	checkCode(t, s, err, code)
}

// brief is the screen with its first cells alone, briefIn the submission with its first fields, to be told.
func brief(s api.Screen) api.Screen {
	s.Cells = s.Cells[:min(12, len(s.Cells))]
	return s
}

func briefIn(in api.In) api.In {
	in.Fields = slices.Clone(in.Fields[:min(6, len(in.Fields))])
	for i, f := range in.Fields {
		in.Fields[i].Text = f.Text[:min(12, len(f.Text))]
	}
	return in
}

// apart tells whether no two of the lists share memory, up to their capacities.
func apart[T any](lists [][]T) bool {
	seen := map[*T]bool{}
	for _, l := range lists {
		l = l[:cap(l)]
		for i := range l {
			if seen[&l[i]] {
				return false
			}
			seen[&l[i]] = true
		}
	}
	return true
}
