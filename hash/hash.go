// Package hash is SHA-256: layer 1, see shared/doc/01-hash.md.
package hash

import "shutter/api"

const blockSize = 64

// Sum is the hash of a text that may grow on.
type Sum struct {
	state  [8]uint32
	block  [blockSize]byte // its first length%blockSize bytes wait for the others
	length uint64          // of the whole text, in bytes
}

// New begins the sum of a text that is still empty.
func New() *Sum {
	s := &Sum{}
	for i := range s.state {
		s.state[i] = word(api.Begin, i)
	}
	return s
}

// Add adds the parts to the text, one behind the other, and answers s.
func (s *Sum) Add(parts ...[]byte) *Sum {
	if s == nil { // no call may panic
		return nil
	}
	for _, part := range parts {
		s.take(part)
	}
	return s
}

// End answers the sum of all that was added.
func (s *Sum) End() [32]byte {
	if s == nil {
		return [32]byte{}
	}
	full := *s // filled up in s's stead, for s may grow on
	full.take(filling(s.length))
	var sum [32]byte
	for i, w := range full.state {
		for j := range 4 {
			sum[4*i+j] = byte(w >> (24 - 8*j))
		}
	}
	return sum
}

// Of is the sum of the parts, one behind the other.
func Of(parts ...[]byte) [32]byte {
	return New().Add(parts...).End()
}

// take copies the part into the block, and mixes the block in each time it is whole.
func (s *Sum) take(part []byte) {
	for len(part) > 0 {
		n := copy(s.block[s.length%blockSize:], part)
		part = part[n:]
		s.length += uint64(n)
		if s.length%blockSize == 0 {
			s.state = mixed(s.state, spread(s.block))
		}
	}
}

// filling is what stands behind a text of so many bytes to make it whole blocks.
func filling(length uint64) []byte {
	const mark, count = 1, 8 // bytes of the 80 that ends the text, and of its length
	over := (length + mark + count) % blockSize
	zeros := (blockSize - over) % blockSize
	fill := make([]byte, mark+zeros, 2*blockSize)
	fill[0] = 0x80
	bits := length * 8
	for shift := 56; shift >= 0; shift -= 8 {
		fill = append(fill, byte(bits>>shift))
	}
	return fill
}

// spread makes of a block the words that its 64 rounds take.
func spread(block [blockSize]byte) [64]uint32 {
	var w [64]uint32
	for t := range 16 {
		b := block[4*t : 4*t+4]
		w[t] = uint32(b[0])<<24 | uint32(b[1])<<16 | uint32(b[2])<<8 | uint32(b[3])
	}
	for t := 16; t < len(w); t++ {
		w[t] = smallSigma1(w[t-2]) + w[t-7] + smallSigma0(w[t-15]) + w[t-16]
	}
	return w
}

// mixed is the state behind the 64 rounds with a block's words.
func mixed(state [8]uint32, words [64]uint32) [8]uint32 {
	a, b, c, d := state[0], state[1], state[2], state[3]
	e, f, g, h := state[4], state[5], state[6], state[7]
	for t, w := range words {
		x := h + bigSigma1(e) + (e&f ^ ^e&g) + word(api.Rounds, t) + w
		y := bigSigma0(a) + (a&b ^ a&c ^ b&c)
		h, g, f, e = g, f, e, d+x
		d, c, b, a = c, b, a, x+y
	}
	for i, w := range [8]uint32{a, b, c, d, e, f, g, h} {
		state[i] += w
	}
	return state
}

func smallSigma0(w uint32) uint32 { return turned(w, 7) ^ turned(w, 18) ^ w>>3 }

func smallSigma1(w uint32) uint32 { return turned(w, 17) ^ turned(w, 19) ^ w>>10 }

func bigSigma0(w uint32) uint32 { return turned(w, 2) ^ turned(w, 13) ^ turned(w, 22) }

func bigSigma1(w uint32) uint32 { return turned(w, 6) ^ turned(w, 11) ^ turned(w, 25) }

// turned is the word turned to the right.
func turned(w uint32, n int) uint32 { return w>>n | w<<(32-n) }

// word is the n-th word of a text that has eight hexadecimal digits for each.
func word(text string, n int) uint32 {
	var w uint32
	for _, digit := range []byte(text[8*n : 8*n+8]) {
		w = w<<4 | value(digit)
	}
	return w
}

// value is what a hexadecimal digit, 0 to 9 or a to f, stands for.
func value(digit byte) uint32 {
	if digit >= 'a' {
		return uint32(digit-'a') + 10
	}
	return uint32(digit - '0')
}
