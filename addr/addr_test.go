package addr_test

import (
	"encoding/hex"
	"errors"
	"math"
	"slices"
	"testing"

	"shutter/addr"
	"shutter/api"
)

// shortSizes and longSizes lie about the ends of what is written short and long, and between.
var (
	shortSizes = []int{1, 2, 20, 63, 64, 65, 80, 127, 128, 129, 255, 256, 257, 1919, 1920, 4032, 4033, 4094, 4095, 4096}
	longSizes  = []int{4097, 4098, 4351, 4352, 4353, 5000, 8000, 8191, 8192, 8193, 16127, 16128, 16129, 16381, 16382, 16383}
)

// noSizes is numbers that no size is, next to those that are and far away.
var noSizes = []int{
	0, -1, -2, -20, -1920, -4096, -4097, -16383, -16384, -65536, math.MinInt32, math.MinInt + 1, math.MinInt,
	16384, 16385, 16386, 20000, 32768, 65535, 65536, 65537, 65536 + 1920, 1 << 20, math.MaxInt32, math.MaxInt - 1, math.MaxInt,
}

// sizes is every size that the tests try.
func sizes() []int { return slices.Concat(shortSizes, longSizes) }

// graphics is the graphic bytes, by their numbers: read by the library, not by the layer below.
func graphics(t *testing.T) []byte {
	t.Helper()
	b, err := hex.DecodeString(api.Graphic)
	if err != nil || len(b) != 64 {
		t.Fatal(len(b), err)
	}
	return b
}

// written is an address's bytes by the document's words.
func written(graphics []byte, a, size int) [2]byte {
	if size <= 4096 {
		return [2]byte{graphics[a/64], graphics[a%64]}
	}
	return [2]byte{byte(a / 256), byte(a % 256)}
}

// checkError holds an error against the number and the place that it shall have.
func checkError(t *testing.T, what string, err error, want api.Errno, place int) {
	t.Helper()
	if !errors.Is(err, want) || api.Code(err) != int(want) {
		t.Errorf("%s: the error %v, not %v", what, err, want)
	}
	var spot *api.Spot
	if found := errors.As(err, &spot); found != (place >= 0) || found && spot.At != place {
		t.Errorf("%s: the place %d, not %d", what, api.Where(err), place)
	}
}

// checkNoPut tells if Put writes what isn't an address.
func checkNoPut(t *testing.T, a, size int, want api.Errno) {
	t.Helper()
	b, err := addr.Put(a, size)
	if b != [2]byte{} {
		t.Errorf("Put(%d, %d): %x beside an error", a, size, b)
	}
	checkError(t, "Put", err, want, -1)
	if t.Failed() {
		t.Fatalf("Put(%d, %d)", a, size)
	}
}

// checkNoGet tells if Get reads what isn't an address.
func checkNoGet(t *testing.T, b []byte, size int, want api.Errno, place int) {
	t.Helper()
	a, err := addr.Get(b, size)
	if a != 0 {
		t.Errorf("Get(%x, %d): %d beside an error", b, size, a)
	}
	checkError(t, "Get", err, want, place)
	if t.Failed() {
		t.Fatalf("Get(%x, %d)", b, size)
	}
}

// checkGet tells if Get reads another address.
func checkGet(t *testing.T, b []byte, size, want int) {
	t.Helper()
	if a, err := addr.Get(b, size); a != want || err != nil {
		t.Fatalf("Get(%x, %d): %d and %v, not %d", b, size, a, err, want)
	}
}

// P4.1: sizes above 4096 are long ones.
func TestLong(t *testing.T) {
	for size := -20000; size <= 70000; size++ {
		if got := addr.Long(size); got != (size > 4096) {
			t.Errorf("Long(%d): %t", size, got)
		}
	}
	for _, size := range shortSizes {
		if addr.Long(size) {
			t.Errorf("Long(%d)", size)
		}
	}
	for _, size := range longSizes {
		if !addr.Long(size) {
			t.Errorf("not Long(%d)", size)
		}
	}
}

// P4.1: Long of numbers far outside, up to the least and the greatest int.
func TestLongFarAway(t *testing.T) {
	for n := range 5000 {
		if addr.Long(math.MinInt+n) || addr.Long(math.MinInt32+n) {
			t.Fatalf("Long of the least int and %d", n)
		}
		if !addr.Long(math.MaxInt-n) || !addr.Long(math.MaxInt32-n) {
			t.Fatalf("not Long of the greatest int less %d", n)
		}
	}
}

// P4.1: the chapter's examples, and the first and last addresses about the ends of what is short and long.
func TestPutExamples(t *testing.T) {
	for _, c := range []struct {
		a, size int
		want    [2]byte
	}{
		{80, 1920, [2]byte{0xc1, 0x50}},
		{5000, 8000, [2]byte{0x13, 0x88}},
		{0, 1, [2]byte{0x40, 0x40}},
		{0, 1920, [2]byte{0x40, 0x40}},
		{1, 2, [2]byte{0x40, 0xc1}},
		{63, 64, [2]byte{0x40, 0x7f}},
		{64, 65, [2]byte{0xc1, 0x40}},
		{1919, 1920, [2]byte{0x5d, 0x7f}},
		{0, 4096, [2]byte{0x40, 0x40}},
		{4095, 4096, [2]byte{0x7f, 0x7f}},
		{0, 4097, [2]byte{0, 0}},
		{255, 4097, [2]byte{0, 0xff}},
		{256, 4097, [2]byte{1, 0}},
		{4095, 4097, [2]byte{0x0f, 0xff}},
		{4096, 4097, [2]byte{0x10, 0}},
		{80, 16383, [2]byte{0, 0x50}},
		{16382, 16383, [2]byte{0x3f, 0xfe}},
	} {
		if got, err := addr.Put(c.a, c.size); got != c.want || err != nil {
			t.Errorf("Put(%d, %d): %x and %v, not %x", c.a, c.size, got, err, c.want)
		}
		checkGet(t, c.want[:], c.size, c.a)
	}
}

// P4.1: Put of every address.
func TestPut(t *testing.T) {
	table := graphics(t)
	for _, size := range sizes() {
		for a := range size {
			if got, err := addr.Put(a, size); got != written(table, a, size) || err != nil {
				t.Fatalf("Put(%d, %d): %x and %v, not %x", a, size, got, err, written(table, a, size))
			}
		}
	}
}

// P4.1: Put of the first and the last address of every size that there is, and of those next to them outside.
func TestPutEverySize(t *testing.T) {
	table := graphics(t)
	for size := 1; size <= 16383; size++ {
		for _, a := range []int{0, size - 1} {
			if got, err := addr.Put(a, size); got != written(table, a, size) || err != nil {
				t.Fatalf("Put(%d, %d): %x and %v, not %x", a, size, got, err, written(table, a, size))
			}
		}
		checkNoPut(t, -1, size, api.ErrAddr)
		checkNoPut(t, size, size, api.ErrAddr)
	}
}

// P4.1: Put of what isn't an address, next to those that are and far away.
func TestPutNoAddress(t *testing.T) {
	for _, size := range sizes() {
		for n := range 500 {
			checkNoPut(t, -1-n, size, api.ErrAddr)
			checkNoPut(t, size+n, size, api.ErrAddr)
			checkNoPut(t, math.MinInt+n, size, api.ErrAddr)
			checkNoPut(t, math.MaxInt-n, size, api.ErrAddr)
			checkNoPut(t, math.MinInt32+n, size, api.ErrAddr)
			checkNoPut(t, math.MaxInt32-n, size, api.ErrAddr)
		}
		for _, a := range []int{4096, 1 << 14, 1<<14 + 1, 1 << 16, 1<<16 + 1, -1 << 14, -1 << 16} {
			if a < 0 || a >= size {
				checkNoPut(t, a, size, api.ErrAddr)
			}
		}
	}
}

// P4.1: Put of no size is ErrArg, whether or not the address is one.
func TestPutNoSize(t *testing.T) {
	for _, size := range noSizes {
		for _, a := range []int{0, 1, -1, 20, size, size - 1, size + 1, 16382, 16383, 16384, math.MinInt, math.MaxInt} {
			checkNoPut(t, a, size, api.ErrArg)
		}
	}
	for n := range 20000 {
		checkNoPut(t, 0, -n, api.ErrArg)
		checkNoPut(t, 0, 16384+n, api.ErrArg)
	}
}

// P4.2: Get of any two bytes, of a size that is written short.
func TestGetShort(t *testing.T) {
	table := graphics(t)
	for _, size := range shortSizes {
		for i := range 1 << 16 {
			b := []byte{byte(i >> 8), byte(i)}
			high, low := slices.Index(table, b[0]), slices.Index(table, b[1])
			switch {
			case high < 0:
				checkNoGet(t, b, size, api.ErrByte, 0)
			case low < 0:
				checkNoGet(t, b, size, api.ErrByte, 1)
			case high*64+low >= size:
				checkNoGet(t, b, size, api.ErrAddr, -1)
			default:
				checkGet(t, b, size, high*64+low)
			}
		}
	}
}

// P4.2: Get of any two bytes, of a size that is written long.
func TestGetLong(t *testing.T) {
	for _, size := range longSizes {
		for i := range 1 << 16 {
			b := []byte{byte(i >> 8), byte(i)}
			switch {
			case b[0] >= 64:
				checkNoGet(t, b, size, api.ErrByte, 0)
			case i >= size:
				checkNoGet(t, b, size, api.ErrAddr, -1)
			default:
				checkGet(t, b, size, i)
			}
		}
	}
}

// P4.2: Get of the last address of every size that there is, and of the one next to it outside.
func TestGetEverySize(t *testing.T) {
	table := graphics(t)
	for size := 1; size <= 16383; size++ {
		b := written(table, size-1, size)
		checkGet(t, b[:], size, size-1)
		if size != 4096 { // where there are no bytes for the next one
			b = written(table, size, size)
			checkNoGet(t, b[:], size, api.ErrAddr, -1)
		}
	}
}

// P4.2: Get of no size is ErrArg, whatever the bytes are, and however few.
func TestGetNoSize(t *testing.T) {
	for _, size := range noSizes {
		for _, b := range [][]byte{nil, {}, {0}, {0x40}, {0x40, 0x40}, {0, 0}, {0xff, 0xff}, {0x40, 0}, {64, 0}, {0x40, 0x40, 0x40}} {
			checkNoGet(t, b, size, api.ErrArg, -1)
		}
	}
	for n := range 20000 {
		checkNoGet(t, []byte{0x40, 0x40}, -n, api.ErrArg, -1)
		checkNoGet(t, []byte{0, 0}, 16384+n, api.ErrArg, -1)
	}
}

// P4.2: Get of no byte, and of one, is ErrCut: whether or not that one could stand there.
func TestGetCut(t *testing.T) {
	for _, size := range sizes() {
		checkNoGet(t, nil, size, api.ErrCut, -1)
		checkNoGet(t, []byte{}, size, api.ErrCut, -1)
		for i := range 256 {
			checkNoGet(t, []byte{byte(i)}, size, api.ErrCut, -1)
			checkNoGet(t, []byte{byte(i), 0x40, 0x40}[:1], size, api.ErrCut, -1)
		}
	}
}

// P4.2: of several errors the one that is named first is told, with its place.
func TestGetFirstError(t *testing.T) {
	for _, c := range []struct {
		b     []byte
		size  int
		want  api.Errno
		place int
	}{
		{nil, 0, api.ErrArg, -1},
		{[]byte{0, 0}, 16384, api.ErrArg, -1},
		{[]byte{0}, 1920, api.ErrCut, -1},
		{[]byte{0xff}, 8000, api.ErrCut, -1},
		{[]byte{0, 0}, 1920, api.ErrByte, 0},
		{[]byte{0x41, 0xc0}, 1, api.ErrByte, 0},
		{[]byte{0x7f, 0xff}, 1, api.ErrByte, 1},
		{[]byte{0xc1, 0x41}, 20, api.ErrByte, 1},
		{[]byte{0x40, 0xc1}, 1, api.ErrAddr, -1},
		{[]byte{0x5e, 0x40}, 1920, api.ErrAddr, -1},
		{[]byte{64, 0}, 4097, api.ErrByte, 0},
		{[]byte{0xc1, 0x50}, 8000, api.ErrByte, 0},
		{[]byte{0xff, 0xff}, 16383, api.ErrByte, 0},
		{[]byte{63, 255}, 4097, api.ErrAddr, -1},
		{[]byte{0x10, 1}, 4097, api.ErrAddr, -1},
		{[]byte{63, 255}, 16383, api.ErrAddr, -1},
	} {
		checkNoGet(t, c.b, c.size, c.want, c.place)
		if len(c.b) >= 2 {
			checkNoGet(t, append(slices.Clone(c.b), 0, 0xff, 0x40), c.size, c.want, c.place)
		}
	}
}

// P4.2: a byte that can't stand there is told by a Spot that wraps ErrByte itself.
func TestGetWraps(t *testing.T) {
	for _, c := range []struct {
		b    []byte
		size int
	}{{[]byte{0, 0x40}, 1920}, {[]byte{0x40, 0}, 1920}, {[]byte{64, 0}, 8000}} {
		_, err := addr.Get(c.b, c.size)
		if inner := errors.Unwrap(err); inner != api.ErrByte {
			t.Errorf("Get(%x, %d): %v is wrapped, not ErrByte", c.b, c.size, inner)
		}
	}
}

// P4.2: each error is one of its own: who writes into one doesn't change another.
func TestGetErrorsApart(t *testing.T) {
	for _, size := range []int{1920, 8000} {
		_, first := addr.Get([]byte{0xff, 0xff}, size)
		var spot *api.Spot
		if !errors.As(first, &spot) {
			t.Fatalf("size %d: %v has no place", size, first)
		}
		*spot = api.Spot{At: 7, Err: api.ErrNone}
		checkNoGet(t, []byte{0xff, 0xff}, size, api.ErrByte, 0)
	}
}

// P4.2, P4.3: whatever follows the two bytes says nothing, and what is handed in stays.
func TestGetWhateverFollows(t *testing.T) {
	table := graphics(t)
	tails := [][]byte{{0}, {0x40}, {0xff}, {0xc1, 0x50}, {0x13, 0x88, 0x40}, make([]byte, 1000)}
	for _, size := range []int{1, 65, 1920, 4096, 4097, 8000, 16383} {
		for _, a := range []int{0, 1, 63, 64, 80, 255, 256, size / 2, size - 1} {
			if a >= size {
				continue
			}
			w := written(table, a, size)
			for _, tail := range tails {
				b := slices.Concat(w[:], tail)
				before := slices.Clone(b)
				checkGet(t, b, size, a)
				if !slices.Equal(b, before) {
					t.Fatalf("Get(%x, %d): the bytes are %x", before, size, b)
				}
			}
		}
	}
}

// P4.3: what is written is read as it was.
func TestThereAndBack(t *testing.T) {
	for _, size := range sizes() {
		for a := range size {
			b, err := addr.Put(a, size)
			if err != nil {
				t.Fatalf("Put(%d, %d): %v", a, size, err)
			}
			checkGet(t, b[:], size, a)
			checkGet(t, append(b[:], b[:]...), size, a)
		}
	}
}

// P4.3: what is read is written as it stood; as many are read as there are addresses.
func TestBackAndThere(t *testing.T) {
	for _, size := range sizes() {
		found := 0
		for i := range 1 << 16 {
			b := [2]byte{byte(i >> 8), byte(i)}
			a, err := addr.Get(b[:], size)
			if err != nil {
				continue
			}
			found++
			if again, err := addr.Put(a, size); again != b || err != nil {
				t.Fatalf("%x, size %d: read %d, written %x and %v", b, size, a, again, err)
			}
		}
		if found != size {
			t.Errorf("size %d: %d are read", size, found)
		}
	}
}
