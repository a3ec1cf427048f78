package attr_test

import (
	"bytes"
	"errors"
	"math"
	"math/bits"
	"testing"

	"shutter/api"
	"shutter/attr"
)

// graphics is the graphic bytes, by their numbers: written out here, so that a slip in a layer below shows.
var graphics = [64]byte{
	0x40, 0xc1, 0xc2, 0xc3, 0xc4, 0xc5, 0xc6, 0xc7, 0xc8, 0xc9, 0x4a, 0x4b, 0x4c, 0x4d, 0x4e, 0x4f,
	0x50, 0xd1, 0xd2, 0xd3, 0xd4, 0xd5, 0xd6, 0xd7, 0xd8, 0xd9, 0x5a, 0x5b, 0x5c, 0x5d, 0x5e, 0x5f,
	0x60, 0x61, 0xe2, 0xe3, 0xe4, 0xe5, 0xe6, 0xe7, 0xe8, 0xe9, 0x6a, 0x6b, 0x6c, 0x6d, 0x6e, 0x6f,
	0xf0, 0xf1, 0xf2, 0xf3, 0xf4, 0xf5, 0xf6, 0xf7, 0xf8, 0xf9, 0x7a, 0x7b, 0x7c, 0x7d, 0x7e, 0x7f,
}

// asking is the keys that ask, and whether they are bare.
var asking = map[byte]bool{
	0x7d: false, 0x6d: true, 0x6c: true, 0x6e: true, 0x6b: true,
	0xf1: false, 0xf2: false, 0xf3: false, 0xf4: false, 0xf5: false, 0xf6: false, 0xf7: false, 0xf8: false, 0xf9: false,
	0x7a: false, 0x7b: false, 0x7c: false,
}

// attrs is the attributes whose Show is the one given.
func attrs(show int) []api.Attr {
	var list []api.Attr
	for i := range 8 {
		list = append(list, api.Attr{Protected: i&4 != 0, Numeric: i&2 != 0, Show: show, Modified: i&1 != 0})
	}
	return list
}

// writes is the writes that there are.
func writes() []api.Wcc {
	var list []api.Wcc
	for i := range 8 {
		list = append(list, api.Wcc{Alarm: i&4 != 0, Unlock: i&2 != 0, Reset: i&1 != 0})
	}
	return list
}

// attrByte is an attribute's byte by the document's words.
func attrByte(a api.Attr) byte {
	n := 4 * a.Show
	if a.Protected {
		n += 32
	}
	if a.Numeric {
		n += 16
	}
	if a.Modified {
		n++
	}
	return graphics[n]
}

// writeByte is a write's byte by the document's words.
func writeByte(w api.Wcc) byte {
	n := 0
	if w.Alarm {
		n += 4
	}
	if w.Unlock {
		n += 2
	}
	if w.Reset {
		n++
	}
	return graphics[n]
}

// checkError holds an error against the number that it shall have, alone and without a place.
func checkError(t *testing.T, what string, err error, want api.Errno) {
	t.Helper()
	if !errors.Is(err, want) || api.Code(err) != int(want) {
		t.Errorf("%s: the error %v, not %v", what, err, want)
	}
	var spot *api.Spot
	if errors.As(err, &spot) || api.Where(err) != -1 {
		t.Errorf("%s: the error has the place %d", what, api.Where(err))
	}
}

// checkNoPut tells if Put writes what isn't an attribute.
func checkNoPut(t *testing.T, show int) {
	t.Helper()
	for _, a := range attrs(show) {
		b, err := attr.Put(a)
		if b != 0 {
			t.Errorf("Put(%v): %x beside an error", a, b)
		}
		checkError(t, "Put", err, api.ErrArg)
		if t.Failed() {
			t.Fatalf("Put(%v)", a)
		}
	}
}

// P5.1: attributes and their bytes, worked out by hand.
func TestAttrExamples(t *testing.T) {
	for _, c := range []struct {
		a    api.Attr
		want byte
	}{
		{api.Attr{}, 0x40},
		{api.Attr{Protected: true}, 0x60},
		{api.Attr{Numeric: true}, 0x50},
		{api.Attr{Show: 1}, 0xc4},
		{api.Attr{Show: 2}, 0xc8},
		{api.Attr{Show: 3}, 0x4c},
		{api.Attr{Modified: true}, 0xc1},
		{api.Attr{Protected: true, Numeric: true}, 0xf0},
		{api.Attr{Show: 3, Modified: true}, 0x4d},
		{api.Attr{Numeric: true, Show: 2, Modified: true}, 0xd9},
		{api.Attr{Protected: true, Show: 1}, 0xe4},
		{api.Attr{Protected: true, Modified: true}, 0x61},
		{api.Attr{Protected: true, Numeric: true, Show: 3}, 0x7c},
		{api.Attr{Protected: true, Numeric: true, Show: 3, Modified: true}, 0x7d},
	} {
		if b, err := attr.Put(c.a); b != c.want || err != nil {
			t.Errorf("Put(%v): %x and %v, not %x", c.a, b, err, c.want)
		}
		if a, err := attr.Get(c.want); a != c.a || err != nil {
			t.Errorf("Get(%x): %v and %v, not %v", c.want, a, err, c.a)
		}
	}
}

// P5.1: Put of every attribute that can be written.
func TestPut(t *testing.T) {
	for show := range 4 {
		for _, a := range attrs(show) {
			if b, err := attr.Put(a); b != attrByte(a) || err != nil {
				t.Errorf("Put(%v): %x and %v, not %x", a, b, err, attrByte(a))
			}
		}
	}
}

// P5.1: Put of a Show next to those that there are.
func TestPutNearby(t *testing.T) {
	for n := range 5000 {
		checkNoPut(t, -1-n)
		checkNoPut(t, 4+n)
	}
}

// P5.1: Put of a Show far away, up to the least and the greatest int.
func TestPutFarAway(t *testing.T) {
	for n := range 100 {
		checkNoPut(t, math.MinInt+n)
		checkNoPut(t, math.MaxInt-n)
		checkNoPut(t, math.MinInt32+n)
		checkNoPut(t, math.MaxInt32-n)
	}
}

// P5.1: Put of a Show whose lowest bits alone, or four times which, would be in the range.
func TestPutLowestBits(t *testing.T) {
	for shift := 2; shift < bits.UintSize; shift++ {
		for n := range 4 {
			checkNoPut(t, 1<<shift|n)
			checkNoPut(t, -1<<shift|n)
		}
	}
}

// P5.1: Get of every byte.
func TestGet(t *testing.T) {
	of := map[byte]api.Attr{}
	for show := range 4 {
		for _, a := range attrs(show) {
			of[attrByte(a)] = a
		}
	}
	if len(of) != 32 {
		t.Fatalf("%d bytes are an attribute's, not 32", len(of))
	}
	for i := range 256 {
		b := byte(i)
		a, err := attr.Get(b)
		if want, found := of[b]; found {
			if a != want || err != nil {
				t.Errorf("Get(%x): %v and %v, not %v", b, a, err, want)
			}
			continue
		}
		if a != (api.Attr{}) {
			t.Errorf("Get(%x): %v beside an error", b, a)
		}
		checkError(t, "Get", err, api.ErrByte)
	}
}

// P5.1: Get of bytes next to an attribute's: with the one bit that no attribute has, or graphic no more.
func TestGetNoAttr(t *testing.T) {
	for _, b := range []byte{0xc2, 0xc3, 0xc6, 0xc7, 0x4a, 0x4f, 0xd2, 0xe2, 0x6f, 0x7e, 0x7f, 0, 1, 0x20, 0x3f, 0x41, 0x80, 0xc0, 0xe0, 0xff} {
		a, err := attr.Get(b)
		if a != (api.Attr{}) {
			t.Errorf("Get(%x): %v beside an error", b, a)
		}
		checkError(t, "Get", err, api.ErrByte)
	}
}

// P5.1: writes and their bytes, worked out by hand: all that there are.
func TestWccExamples(t *testing.T) {
	for _, c := range []struct {
		w    api.Wcc
		want byte
	}{
		{api.Wcc{}, 0x40},
		{api.Wcc{Reset: true}, 0xc1},
		{api.Wcc{Unlock: true}, 0xc2},
		{api.Wcc{Unlock: true, Reset: true}, 0xc3},
		{api.Wcc{Alarm: true}, 0xc4},
		{api.Wcc{Alarm: true, Reset: true}, 0xc5},
		{api.Wcc{Alarm: true, Unlock: true}, 0xc6},
		{api.Wcc{Alarm: true, Unlock: true, Reset: true}, 0xc7},
	} {
		if b := attr.PutWcc(c.w); b != c.want {
			t.Errorf("PutWcc(%v): %x, not %x", c.w, b, c.want)
		}
		if w, err := attr.GetWcc(c.want); w != c.w || err != nil {
			t.Errorf("GetWcc(%x): %v and %v, not %v", c.want, w, err, c.w)
		}
	}
}

// P5.1: GetWcc of every byte.
func TestGetWcc(t *testing.T) {
	of := map[byte]api.Wcc{}
	for _, w := range writes() {
		of[writeByte(w)] = w
	}
	if len(of) != 8 {
		t.Fatalf("%d bytes are a write's, not 8", len(of))
	}
	for i := range 256 {
		b := byte(i)
		w, err := attr.GetWcc(b)
		if want, found := of[b]; found {
			if w != want || err != nil {
				t.Errorf("GetWcc(%x): %v and %v, not %v", b, w, err, want)
			}
			continue
		}
		if w != (api.Wcc{}) {
			t.Errorf("GetWcc(%x): %v beside an error", b, w)
		}
		checkError(t, "GetWcc", err, api.ErrByte)
	}
}

// P5.2: Char of every byte.
func TestChar(t *testing.T) {
	found := 0
	for i := range 256 {
		want := i >= 0x40 && i <= 0xfe || i == 0 || i == 0x1c || i == 0x1e
		if got := attr.Char(byte(i)); got != want {
			t.Errorf("Char(%x): %t", i, got)
		}
		if want {
			found++
		}
	}
	if found != 0xfe-0x40+1+3 {
		t.Errorf("%d characters", found)
	}
}

// P5.2: Char at the edges.
func TestCharEdges(t *testing.T) {
	for _, b := range []byte{0, 0x1c, 0x1e, 0x40, 0x41, 0x7f, 0x80, 0xfd, 0xfe, api.ByteDup, api.ByteFM} {
		if !attr.Char(b) {
			t.Errorf("not Char(%x)", b)
		}
	}
	for _, b := range []byte{1, 2, 0x1b, 0x1d, 0x1f, 0x20, 0x3e, 0x3f, 0xff} {
		if attr.Char(b) {
			t.Errorf("Char(%x)", b)
		}
	}
}

// P5.2: Aid and Bare of every byte.
func TestAidAndBare(t *testing.T) {
	for i := range 256 {
		b := byte(i)
		bare, asks := asking[b]
		if got := attr.Aid(b); got != asks {
			t.Errorf("Aid(%x): %t", b, got)
		}
		if got := attr.Bare(b); got != bare {
			t.Errorf("Bare(%x): %t", b, got)
		}
	}
}

// P5.2: Aid and Bare of the keys that api names, and at the edges of those that it doesn't.
func TestAidEdges(t *testing.T) {
	for _, b := range []byte{api.AidClear, api.AidPa1, api.AidPa2, api.AidPa3} {
		if !attr.Aid(b) || !attr.Bare(b) {
			t.Errorf("%x: Aid %t, Bare %t", b, attr.Aid(b), attr.Bare(b))
		}
	}
	for _, b := range []byte{api.AidEnter, 0xf1, 0xf9, 0x7a, 0x7b, 0x7c} {
		if !attr.Aid(b) || attr.Bare(b) {
			t.Errorf("%x: Aid %t, Bare %t", b, attr.Aid(b), attr.Bare(b))
		}
	}
	for _, b := range []byte{api.AidNone, 0, 0xf0, 0xfa, 0x79, 0x7e, 0x6a, 0x6f, 0xff} {
		if attr.Aid(b) || attr.Bare(b) {
			t.Errorf("%x: Aid %t, Bare %t", b, attr.Aid(b), attr.Bare(b))
		}
	}
}

// P5.3: an attribute that is written is read as it was.
func TestAttrThereAndBack(t *testing.T) {
	for show := range 4 {
		for _, a := range attrs(show) {
			b, err := attr.Put(a)
			if err != nil {
				t.Errorf("Put(%v): %v", a, err)
			}
			if back, err := attr.Get(b); back != a || err != nil {
				t.Errorf("%v: written %x, read %v and %v", a, b, back, err)
			}
		}
	}
}

// P5.3: an attribute that is read is written as it stood.
func TestAttrBackAndThere(t *testing.T) {
	found := 0
	for i := range 256 {
		a, err := attr.Get(byte(i))
		if err != nil {
			continue
		}
		found++
		if b, err := attr.Put(a); b != byte(i) || err != nil {
			t.Errorf("%x: read %v, written %x and %v", i, a, b, err)
		}
	}
	if found != 32 {
		t.Errorf("%d bytes are read, not 32", found)
	}
}

// P5.3: a write that is written is read as it was.
func TestWccThereAndBack(t *testing.T) {
	for _, w := range writes() {
		b := attr.PutWcc(w)
		if back, err := attr.GetWcc(b); back != w || err != nil {
			t.Errorf("%v: written %x, read %v and %v", w, b, back, err)
		}
	}
}

// P5.3: a write that is read is written as it stood.
func TestWccBackAndThere(t *testing.T) {
	found := 0
	for i := range 256 {
		w, err := attr.GetWcc(byte(i))
		if err != nil {
			continue
		}
		found++
		if b := attr.PutWcc(w); b != byte(i) {
			t.Errorf("%x: read %v, written %x", i, w, b)
		}
	}
	if found != 8 {
		t.Errorf("%d bytes are read, not 8", found)
	}
}

// P5.3: no order is a character; the two bytes that stand among them in api and aren't orders are.
func TestNoOrderIsChar(t *testing.T) {
	orders := []byte{api.ByteSF, api.ByteSBA, api.ByteIC, api.BytePT, api.ByteRA, api.ByteEUA}
	if want := []byte{0x1d, 0x11, 0x13, 0x05, 0x3c, 0x12}; !bytes.Equal(orders, want) {
		t.Errorf("the orders are %x, not %x", orders, want)
	}
	for _, b := range orders {
		if attr.Char(b) {
			t.Errorf("Char(%x)", b)
		}
	}
	if !attr.Char(api.ByteDup) || !attr.Char(api.ByteFM) {
		t.Error("ByteDup and ByteFM may stand as characters")
	}
}

// P5.1, P5.2: what a call answers hangs on its argument alone, whatever was asked ahead of it.
func TestAskedAgain(t *testing.T) {
	for i := range 256 {
		b := byte(i)
		a, aErr := attr.Get(b)
		w, wErr := attr.GetWcc(b)
		char, aid, bare := attr.Char(b), attr.Aid(b), attr.Bare(b)
		for j := range 256 {
			attr.Get(byte(j))
			attr.GetWcc(byte(j))
		}
		if again, err := attr.Get(b); again != a || api.Code(err) != api.Code(aErr) {
			t.Errorf("Get(%x): %v and %v, then %v and %v", b, a, aErr, again, err)
		}
		if again, err := attr.GetWcc(b); again != w || api.Code(err) != api.Code(wErr) {
			t.Errorf("GetWcc(%x): %v and %v, then %v and %v", b, w, wErr, again, err)
		}
		if attr.Char(b) != char || attr.Aid(b) != aid || attr.Bare(b) != bare {
			t.Errorf("%x: another kind of byte than before", b)
		}
	}
}
