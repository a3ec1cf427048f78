package hash

import (
	"bytes"
	"testing"
)

// P1.1: behind a text stand 80, as few zeros as can be, and its length in bits: of texts, too, that are too long to try.
func TestFilling(t *testing.T) {
	for _, c := range []struct {
		length uint64
		zeros  int
		bits   []byte
	}{
		{0, 55, []byte{0, 0, 0, 0, 0, 0, 0, 0}},
		{1, 54, []byte{0, 0, 0, 0, 0, 0, 0, 8}},
		{54, 1, []byte{0, 0, 0, 0, 0, 0, 1, 0xb0}},
		{55, 0, []byte{0, 0, 0, 0, 0, 0, 1, 0xb8}},
		{56, 63, []byte{0, 0, 0, 0, 0, 0, 1, 0xc0}},
		{63, 56, []byte{0, 0, 0, 0, 0, 0, 1, 0xf8}},
		{64, 55, []byte{0, 0, 0, 0, 0, 0, 2, 0}},
		{119, 0, []byte{0, 0, 0, 0, 0, 0, 3, 0xb8}},
		{120, 63, []byte{0, 0, 0, 0, 0, 0, 3, 0xc0}},
		{1<<29 - 1, 56, []byte{0, 0, 0, 0, 0xff, 0xff, 0xff, 0xf8}},
		{1 << 29, 55, []byte{0, 0, 0, 1, 0, 0, 0, 0}},
		{1<<31 - 1, 56, []byte{0, 0, 0, 3, 0xff, 0xff, 0xff, 0xf8}},
	} {
		want := append([]byte{0x80}, make([]byte, c.zeros)...)
		want = append(want, c.bits...)
		if got := filling(c.length); !bytes.Equal(got, want) {
			t.Errorf("behind %d bytes: %x, not %x", c.length, got, want)
		}
	}
}
