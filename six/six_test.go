package six_test

import (
	"encoding/hex"
	"errors"
	"math"
	"math/bits"
	"testing"

	"shutter/api"
	"shutter/six"
)

// graphics is the graphic bytes, by their numbers: written out here, so that a slip in reading api's text shows.
var graphics = [64]byte{
	0x40, 0xc1, 0xc2, 0xc3, 0xc4, 0xc5, 0xc6, 0xc7, 0xc8, 0xc9, 0x4a, 0x4b, 0x4c, 0x4d, 0x4e, 0x4f,
	0x50, 0xd1, 0xd2, 0xd3, 0xd4, 0xd5, 0xd6, 0xd7, 0xd8, 0xd9, 0x5a, 0x5b, 0x5c, 0x5d, 0x5e, 0x5f,
	0x60, 0x61, 0xe2, 0xe3, 0xe4, 0xe5, 0xe6, 0xe7, 0xe8, 0xe9, 0x6a, 0x6b, 0x6c, 0x6d, 0x6e, 0x6f,
	0xf0, 0xf1, 0xf2, 0xf3, 0xf4, 0xf5, 0xf6, 0xf7, 0xf8, 0xf9, 0x7a, 0x7b, 0x7c, 0x7d, 0x7e, 0x7f,
}

// numbers is the numbers of the graphic bytes; a byte that isn't there is none.
func numbers() map[byte]int {
	of := map[byte]int{}
	for n, b := range graphics {
		of[b] = n
	}
	return of
}

// checkError holds an error against the number that it shall have, alone and without a place.
func checkError(t *testing.T, what string, err error, want api.Errno) {
	t.Helper()
	if !errors.Is(err, want) || api.Code(err) != int(want) {
		t.Errorf("%s: the error %v, not %v", what, err, want)
	}
	if api.Where(err) != -1 {
		t.Errorf("%s: the error has the place %d", what, api.Where(err))
	}
}

// checkNoByte tells if Put finds a byte where there is none.
func checkNoByte(t *testing.T, n int) {
	t.Helper()
	b, err := six.Put(n)
	if b != 0 {
		t.Errorf("Put(%d): %x beside an error", n, b)
	}
	checkError(t, "Put", err, api.ErrArg)
}

// P3.1: the table above is the one that the document means.
func TestGraphicsAreApis(t *testing.T) {
	if got := hex.EncodeToString(graphics[:]); got != api.Graphic {
		t.Errorf("api has %s, not %s", api.Graphic, got)
	}
	if len(numbers()) != 64 {
		t.Errorf("%d bytes differ from each other, not 64", len(numbers()))
	}
}

// P3.1: Put of every number that has a byte.
func TestPut(t *testing.T) {
	for n, want := range graphics {
		if b, err := six.Put(n); b != want || err != nil {
			t.Errorf("Put(%d): %x and %v, not %x", n, b, err, want)
		}
	}
}

// P3.1: Put of numbers next to those that have a byte.
func TestPutNearby(t *testing.T) {
	for n := 1; n <= 5000; n++ {
		checkNoByte(t, -n)
		checkNoByte(t, 63+n)
	}
}

// P3.1: Put of numbers far away, up to the least and the greatest int.
func TestPutFarAway(t *testing.T) {
	for n := range 100 {
		checkNoByte(t, math.MinInt+n)
		checkNoByte(t, math.MaxInt-n)
		checkNoByte(t, math.MinInt32+n)
		checkNoByte(t, math.MaxInt32-n)
	}
}

// P3.1: Put of numbers whose lowest bits alone would be a number that has a byte.
func TestPutLowestBits(t *testing.T) {
	for shift := 6; shift < bits.UintSize; shift++ {
		for n := range 64 {
			checkNoByte(t, 1<<shift|n)
			checkNoByte(t, -1<<shift|n)
		}
	}
}

// P3.1: Get of every byte.
func TestGet(t *testing.T) {
	of := numbers()
	for i := range 256 {
		b := byte(i)
		n, err := six.Get(b)
		if want, graphic := of[b]; graphic {
			if n != want || err != nil {
				t.Errorf("Get(%x): %d and %v, not %d", b, n, err, want)
			}
			continue
		}
		if n != 0 {
			t.Errorf("Get(%x): %d beside an error", b, n)
		}
		checkError(t, "Get", err, api.ErrByte)
	}
}

// P3.1: Get of bytes that have a number's bits, but not those above that make them graphic.
func TestGetOtherHighBits(t *testing.T) {
	for n, graphic := range graphics {
		for high := range 4 {
			b := byte(high<<6 | n)
			if k, err := six.Get(b); (err == nil) != (b == graphic) {
				t.Errorf("Get(%x): %d and %v, where %x is graphic", b, k, err, graphic)
			}
		}
	}
}

// P3.1: Low of every byte, graphic or not.
func TestLow(t *testing.T) {
	for i := range 256 {
		if got := six.Low(byte(i)); got != i%64 {
			t.Errorf("Low(%x): %d, not %d", i, got, i%64)
		}
	}
}

// P3.2: what Put tells has the number as its lowest bits, and Get reads it as it was.
func TestThereAndBack(t *testing.T) {
	for n := range 64 {
		b, err := six.Put(n)
		if err != nil {
			t.Errorf("Put(%d): %v", n, err)
		}
		if low := six.Low(b); low != n {
			t.Errorf("%d: the lowest bits of %x are %d", n, b, low)
		}
		if back, err := six.Get(b); back != n || err != nil {
			t.Errorf("%d: written %x, read %d and %v", n, b, back, err)
		}
	}
}

// P3.2: what Get reads is its byte's lowest bits, and Put writes it as it stood.
func TestBackAndThere(t *testing.T) {
	found := 0
	for i := range 256 {
		b := byte(i)
		n, err := six.Get(b)
		if err != nil {
			continue
		}
		found++
		if n != six.Low(b) {
			t.Errorf("%x: read %d, but its lowest bits are %d", b, n, six.Low(b))
		}
		if again, err := six.Put(n); again != b || err != nil {
			t.Errorf("%x: read %d, written %x and %v", b, n, again, err)
		}
	}
	if found != 64 {
		t.Errorf("%d bytes are read, not 64", found)
	}
}
