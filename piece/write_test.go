package piece_test

import (
	"bytes"
	"strings"
	"testing"

	"shutter/api"
)

// full is the bytes of a piece that isn't the last one, as digits.
var full = strings.Repeat("c1", 64)

// writtenOut is packs, and their bytes.
var writtenOut = []struct {
	pack  api.Pack
	bytes string
}{
	{api.Pack{}, "00000000" + "00000000" + "00"},
	{api.Pack{Ack: 1}, "00000001" + "00000000" + "00"},
	{api.Pack{Ack: 258}, "00000102" + "00000000" + "00"},
	{api.Pack{Ack: greatest}, "7fffffff" + "00000000" + "00"},
	{api.Pack{Num: 1, Last: true, Data: []byte{0}}, "00000000" + "00000001" + "01" + "00"},
	{api.Pack{Num: 1, Last: true, Data: []byte{7}}, "00000000" + "00000001" + "01" + "07"},
	{api.Pack{Ack: 1 << 24, Num: 2, Last: true, Data: []byte{7, 0xff}}, "01000000" + "00000002" + "01" + "07ff"},
	{api.Pack{Ack: 0x01020304, Num: 0x7a6b5c4d, Last: true, Data: []byte("end")}, "01020304" + "7a6b5c4d" + "01" + "656e64"},
	{api.Pack{Ack: 3, Num: greatest, Last: true, Data: bytes.Repeat([]byte{0xc1}, 64)}, "00000003" + "7fffffff" + "01" + full},
	{api.Pack{Ack: greatest, Num: 1 << 16, Data: bytes.Repeat([]byte{0xc1}, 64)}, "7fffffff" + "00010000" + "00" + full},
	{api.Pack{Ack: greatest, Num: greatest, Last: true, Data: bytes.Repeat([]byte{0xc1}, 63)}, "7fffffff" + "7fffffff" + "01" + full[2:]},
}

// P22.2: packs whose bytes are written out.
func TestWriteWrittenOut(t *testing.T) {
	for _, c := range writtenOut {
		checkWritten(t, c.pack, unhex(t, c.bytes), 0)
	}
	checkWritten(t, api.Pack{Data: []byte{}}, make([]byte, 9), 0)
}

// P22.2: each pair of numbers, without a piece, with one that is the last and with one that isn't.
func TestWriteNumbers(t *testing.T) {
	for _, ack := range append(numbers, 0) {
		checkWritten(t, api.Pack{Ack: ack}, laid(uint32(ack), 0, 0, nil), 0)
		for _, num := range numbers {
			for _, length := range []int{1, 2, 63, 64} {
				data := some(length, ack+num)
				checkWritten(t, api.Pack{Ack: ack, Num: num, Last: true, Data: data}, laid(uint32(ack), uint32(num), 1, data), 0)
			}
			data := some(mostData, num)
			checkWritten(t, api.Pack{Ack: ack, Num: num, Data: data}, laid(uint32(ack), uint32(num), 0, data), 0)
		}
	}
}

// P22.2: Data of every length there may be, and each byte in them.
func TestWriteData(t *testing.T) {
	for length := 1; length <= mostData; length++ {
		for _, data := range lists(length) {
			checkWritten(t, api.Pack{Ack: length, Num: 5, Last: true, Data: data}, laid(uint32(length), 5, 1, data), 0)
		}
	}
	for c := range 256 {
		data := bytes.Repeat([]byte{byte(c)}, mostData)
		checkWritten(t, api.Pack{Num: 5, Data: data}, laid(0, 5, 0, data), 0)
		checkWritten(t, api.Pack{Num: 5, Last: true, Data: data[:1]}, laid(0, 5, 1, data[:1]), 0)
	}
}

// P22.2: nothing and ErrArg, where Ack or Num is no number of a pack, or both are.
func TestWriteNoNumbers(t *testing.T) {
	data := some(mostData, 1)
	for _, n := range noNumbers {
		list := []api.Pack{{Ack: n}, {Num: n}, {Ack: n, Num: n}, {Num: n, Last: true}}
		for _, m := range append([]int{0, 1, 2, greatest}, noNumbers...) {
			list = append(list, api.Pack{Ack: n, Num: m}, api.Pack{Ack: m, Num: n})
			for _, last := range []bool{false, true} {
				list = append(list, api.Pack{Ack: n, Num: m, Last: last, Data: data}, api.Pack{Ack: m, Num: n, Last: last, Data: data}, api.Pack{Ack: m, Num: n, Last: last, Data: data[:5]})
			}
		}
		for _, p := range list {
			checkWritten(t, p, nil, api.ErrArg)
		}
	}
}

// P22.2: nothing and ErrArg of Num 0 that is Last, or with Data: each alone, and both.
func TestWriteNoPiece(t *testing.T) {
	for _, ack := range []int{0, 1, greatest} {
		checkWritten(t, api.Pack{Ack: ack, Last: true}, nil, api.ErrArg)
		checkWritten(t, api.Pack{Ack: ack, Last: true, Data: []byte{}}, nil, api.ErrArg)
		for _, length := range []int{1, 2, 63, 64, 65, 128} {
			for _, data := range lists(length) {
				checkWritten(t, api.Pack{Ack: ack, Data: data}, nil, api.ErrArg)
				checkWritten(t, api.Pack{Ack: ack, Last: true, Data: data}, nil, api.ErrArg)
			}
		}
	}
}

// P22.2: of another Num nothing and ErrArg of no Data, of too many, and of too few that aren't the last ones; each length.
func TestWriteLengths(t *testing.T) {
	lengths := []int{255, 256, 257, 320, 321, 512, 8192, 65536, 65537, 65600, 1 << 20}
	for length := range 200 {
		lengths = append(lengths, length)
	}
	for _, num := range []int{1, 2, 64, 1 << 24, greatest} {
		for _, length := range lengths {
			for _, data := range lists(length) {
				ending, inside := api.Pack{Num: num, Last: true, Data: data}, api.Pack{Num: num, Data: data}
				if length == 0 || length > 64 {
					checkWritten(t, ending, nil, api.ErrArg)
				} else {
					checkWrite(t, ending)
				}
				if length != 64 {
					checkWritten(t, inside, nil, api.ErrArg)
				} else {
					checkWrite(t, inside)
				}
			}
		}
		checkWritten(t, api.Pack{Num: num}, nil, api.ErrArg)
		checkWritten(t, api.Pack{Num: num, Last: true}, nil, api.ErrArg)
	}
}
