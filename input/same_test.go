package input_test

import (
	"math"
	"slices"
	"testing"

	"shutter/api"
	"shutter/input"
)

// full is a submission in which every part stands; two of them share no memory.
func full() api.In {
	return api.In{Aid: 0x7d, Cursor: 7, Fields: []api.Entry{
		{Addr: 2, Text: []byte{0xc1, 0x40}},
		{Addr: 9},
		{Addr: 80, Text: []byte{0x1c, 0xc2, 0xc3}},
	}}
}

// checkSame holds Same of two submissions, in both orders of them, against what it shall be.
func checkSame(t *testing.T, a, b api.In, want bool) {
	t.Helper()
	if input.Same(a, b) != want || input.Same(b, a) != want {
		t.Fatalf("%v and %v: %t, and turned %t", a, b, input.Same(a, b), input.Same(b, a))
	}
}

// P9.3: submissions that differ in one part alone are not alike; with that part given to both, they are.
func TestSameOnePart(t *testing.T) {
	for _, change := range []func(in *api.In){
		func(in *api.In) { in.Aid = 0xff },
		func(in *api.In) { in.Aid = 0 },
		func(in *api.In) { in.Aid ^= 0x80 },
		func(in *api.In) { in.Cursor = 8 },
		func(in *api.In) { in.Cursor = 0 },
		func(in *api.In) { in.Cursor = -7 },
		func(in *api.In) { in.Cursor += 256 },
		func(in *api.In) { in.Cursor += half },
		func(in *api.In) { in.Cursor = math.MinInt + 7 },
		func(in *api.In) { in.Fields = nil },
		func(in *api.In) { in.Fields = []api.Entry{} },
		func(in *api.In) { in.Fields = in.Fields[:2] },
		func(in *api.In) { in.Fields = in.Fields[1:] },
		func(in *api.In) { in.Fields = append(in.Fields, api.Entry{}) },
		func(in *api.In) { in.Fields = append(in.Fields, api.Entry{Addr: 80, Text: []byte{0x1c, 0xc2, 0xc3}}) },
		func(in *api.In) { slices.Reverse(in.Fields) },
		func(in *api.In) { in.Fields[0].Addr = 3 },
		func(in *api.In) { in.Fields[0].Addr = -1 },
		func(in *api.In) { in.Fields[1].Addr += half },
		func(in *api.In) { in.Fields[2].Addr += 65536 },
		func(in *api.In) { in.Fields[0].Text[0] = 0xc2 },
		func(in *api.In) { in.Fields[0].Text[1] = 0 },
		func(in *api.In) { in.Fields[0].Text = nil },
		func(in *api.In) { in.Fields[0].Text = []byte{0xc1} },
		func(in *api.In) { in.Fields[0].Text = append(in.Fields[0].Text, 0) },
		func(in *api.In) { in.Fields[1].Text = []byte{0x40} },
		func(in *api.In) { in.Fields[1].Text = []byte{0} },
		func(in *api.In) { in.Fields[2].Text[1] = 0xc3 },
		func(in *api.In) { in.Fields[2].Text[2] = 0x1c },
		func(in *api.In) { slices.Reverse(in.Fields[2].Text) },
	} {
		for _, aid := range slices.Concat(bares, tellers, []byte{0x60, 0x01}) {
			a, b := full(), full()
			a.Aid, b.Aid = aid, aid
			checkSame(t, a, b, true)
			change(&b)
			checkSame(t, a, b, false)
			change(&a)
			checkSame(t, a, b, true)
		}
	}
}

// P9.3: of all pairs of Aids only those that are one are alike.
func TestSameAids(t *testing.T) {
	for i := range 256 {
		for j := range 256 {
			checkSame(t, api.In{Aid: byte(i)}, api.In{Aid: byte(j)}, i == j)
		}
	}
}

// P9.3: nil and empty lists, of fields and of letters, are one.
func TestSameEmpty(t *testing.T) {
	for _, empty := range [][]api.Entry{nil, {}, make([]api.Entry, 0, 2), []api.Entry{{Addr: 3}}[:0]} {
		for _, aid := range []byte{0x7d, 0x6d, 0} {
			checkSame(t, api.In{Aid: aid, Fields: empty}, api.In{Aid: aid}, true)
			checkSame(t, api.In{Aid: aid, Fields: empty}, api.In{Aid: aid, Fields: []api.Entry{}}, true)
			checkSame(t, api.In{Aid: aid, Fields: empty}, api.In{Aid: aid, Fields: []api.Entry{{}}}, false)
		}
	}
	checkSame(t, api.In{}, api.In{}, true)
	for _, empty := range [][]byte{nil, {}, make([]byte, 0, 2), []byte{0xc1}[:0]} {
		checkSame(t, api.In{Fields: []api.Entry{{Text: empty}}}, api.In{Fields: []api.Entry{{}}}, true)
		checkSame(t, api.In{Fields: []api.Entry{{Text: empty}}}, api.In{Fields: []api.Entry{{Text: []byte{0}}}}, false)
	}
}

// P9.3: right submissions, and those that aren't, are each like themselves alone.
func TestSameEach(t *testing.T) {
	list := []api.In{full()}
	for _, aid := range []byte{0, 0x60, 0x6d, 0x7d, 0xf1} {
		for _, cursor := range []int{0, 1, -1, 1919, math.MinInt, math.MaxInt} {
			list = append(list, api.In{Aid: aid, Cursor: cursor})
			for _, x := range slices.Concat(wrongs(1920), strays()) {
				list = append(list, api.In{Aid: aid, Cursor: cursor, Fields: []api.Entry{x.f}})
			}
		}
	}
	for _, x := range rights(1920) {
		list = append(list, api.In{Aid: 0x7d, Fields: []api.Entry{x.f}}, api.In{Aid: 0x7d, Fields: []api.Entry{x.f, x.f}})
	}
	for _, a := range list {
		for _, b := range list {
			checkSame(t, a, b, alike(a, b))
		}
		checkSame(t, a, a, true)
	}
}

// P9.4: Same changes neither submission.
func TestSameHandedInStays(t *testing.T) {
	a, b := full(), full()
	b.Fields = append(b.Fields, api.Entry{Addr: 1, Text: []byte{0x40}})
	input.Same(a, b)
	input.Same(b, a)
	input.Same(a, a)
	if !alike(a, full()) || len(b.Fields) != 4 || !alike(api.In{Fields: b.Fields[:3]}, api.In{Fields: full().Fields}) || string(b.Fields[3].Text) != "\x40" {
		t.Errorf("%v and %v", a, b)
	}
}
