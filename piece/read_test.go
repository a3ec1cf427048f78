package piece_test

import (
	"bytes"
	"testing"

	"shutter/api"
)

// P22.2: bytes that are written out are the pack.
func TestReadWrittenOut(t *testing.T) {
	for _, c := range writtenOut {
		checkAnswer(t, unhex(t, c.bytes), c.pack, 0)
	}
}

// P22.2: the bytes of each pair of numbers.
func TestReadNumbers(t *testing.T) {
	for _, ack := range append(numbers, 0) {
		checkAnswer(t, laid(uint32(ack), 0, 0, nil), api.Pack{Ack: ack}, 0)
		for _, num := range numbers {
			for _, length := range []int{1, 63, 64} {
				data := some(length, ack+num)
				checkAnswer(t, laid(uint32(ack), uint32(num), 1, data), api.Pack{Ack: ack, Num: num, Last: true, Data: data}, 0)
			}
			data := some(mostData, num)
			checkAnswer(t, laid(uint32(ack), uint32(num), 0, data), api.Pack{Ack: ack, Num: num, Data: data}, 0)
		}
	}
}

// P22.2: Pack{} and ErrCut of fewer than nine bytes, whatever they are.
func TestReadCut(t *testing.T) {
	checkAnswer(t, nil, api.Pack{}, api.ErrCut)
	checkAnswer(t, []byte{}, api.Pack{}, api.ErrCut)
	for length := range head {
		for _, b := range lists(length) {
			checkAnswer(t, b, api.Pack{}, api.ErrCut)
		}
		for c := range 256 {
			checkAnswer(t, bytes.Repeat([]byte{byte(c)}, length), api.Pack{}, api.ErrCut)
		}
		for _, c := range writtenOut {
			checkAnswer(t, unhex(t, c.bytes)[:length], api.Pack{}, api.ErrCut)
		}
	}
}

// P22.2: Pack{} and ErrByte, if the ninth byte is neither 0 nor 1: ahead of all that makes ErrArg.
func TestReadNinthByte(t *testing.T) {
	firsts := []uint32{0, 1, greatest, 1 << 31, 1<<32 - 1}
	for ninth := range 256 {
		for _, ack := range firsts {
			for _, num := range firsts {
				for _, length := range []int{0, 1, 63, 64, 65, 1000} {
					b := laid(ack, num, byte(ninth), some(length, ninth))
					if ninth > 1 {
						checkAnswer(t, b, api.Pack{}, api.ErrByte)
					} else {
						checkRead(t, b)
					}
				}
			}
		}
	}
}

// P22.2: Pack{} and ErrArg, if the first or the fifth byte is above 127: a number above the greatest.
func TestReadGreatNumbers(t *testing.T) {
	data := some(mostData, 1)
	for c := range 256 {
		for _, low := range [][]byte{{0, 0, 0}, {0, 0, 1}, {0xff, 0xff, 0xff}, {0x80, 0x80, 0x80}, {1, 2, 3}} {
			low := append([]byte{byte(c)}, low...)
			n := int(low[0])*1<<24 + int(low[1])*1<<16 + int(low[2])*1<<8 + int(low[3])
			alone := append(bytes.Clone(low), 0, 0, 0, 0, 0)
			first := append(append(bytes.Clone(low), 0, 0, 0, 1, 0), data...)
			fifth := append(append([]byte{0, 0, 0, 1}, low...), append([]byte{1}, data...)...)
			both := append(append(bytes.Clone(low), low...), append([]byte{1}, data...)...)
			for _, b := range [][]byte{alone, first, fifth, both} {
				if c > 127 {
					checkAnswer(t, b, api.Pack{}, api.ErrArg)
				}
			}
			if c <= 127 && n > 0 {
				checkAnswer(t, alone, api.Pack{Ack: n}, 0)
				checkAnswer(t, first, api.Pack{Ack: n, Num: 1, Data: data}, 0)
				checkAnswer(t, fifth, api.Pack{Ack: 1, Num: n, Last: true, Data: data}, 0)
				checkAnswer(t, both, api.Pack{Ack: n, Num: n, Last: true, Data: data}, 0)
			}
		}
	}
}

// P22.2: of Num 0 Pack{} and ErrArg, if the ninth byte is 1, or anything stands behind it.
func TestReadNoPiece(t *testing.T) {
	for _, ack := range []uint32{0, 1, 256, greatest} {
		checkAnswer(t, laid(ack, 0, 0, nil), api.Pack{Ack: int(ack)}, 0)
		checkAnswer(t, laid(ack, 0, 1, nil), api.Pack{}, api.ErrArg)
		for length := 1; length < 200; length++ {
			for _, data := range lists(length) {
				checkAnswer(t, laid(ack, 0, 0, data), api.Pack{}, api.ErrArg)
				checkAnswer(t, laid(ack, 0, 1, data), api.Pack{}, api.ErrArg)
			}
		}
	}
}

// P22.2: of another Num Pack{} and ErrArg, if nothing stands behind the ninth byte, too many, or too few and the piece isn't the last one; each length.
func TestReadLengths(t *testing.T) {
	lengths := []int{255, 256, 257, 320, 321, 477, 512, 8192, 65536, 65537, 65600, 1 << 20}
	for length := range 200 {
		lengths = append(lengths, length)
	}
	for _, num := range []int{1, 2, 256, 1 << 24, greatest} {
		for _, length := range lengths {
			for _, data := range lists(length) {
				ending, inside := laid(9, uint32(num), 1, data), laid(9, uint32(num), 0, data)
				if length == 0 || length > 64 {
					checkAnswer(t, ending, api.Pack{}, api.ErrArg)
				} else {
					checkAnswer(t, ending, api.Pack{Ack: 9, Num: num, Last: true, Data: data}, 0)
				}
				if length != 64 {
					checkAnswer(t, inside, api.Pack{}, api.ErrArg)
				} else {
					checkAnswer(t, inside, api.Pack{Ack: 9, Num: num, Data: data}, 0)
				}
			}
		}
	}
}

// P22.2: a pack's bytes with one byte turned into each other one, and with one taken out or put in.
func TestReadTurned(t *testing.T) {
	for _, c := range writtenOut {
		b := unhex(t, c.bytes)
		for i := range b {
			for turn := 1; turn < 256; turn++ {
				turned := bytes.Clone(b)
				turned[i] ^= byte(turn)
				checkRead(t, turned)
			}
			checkRead(t, append(bytes.Clone(b[:i]), b[i+1:]...))
			checkRead(t, append(append(bytes.Clone(b[:i]), 1), b[i:]...))
		}
	}
}
