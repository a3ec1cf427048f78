package frame_test

import (
	"bytes"
	"testing"

	"shutter/api"
)

// P19.2: bytes that are written out are the frame.
func TestOpenWrittenOut(t *testing.T) {
	for _, c := range writtenOut {
		checkOpened(t, []byte(c.key), c.frame.Dir, unhex(t, c.bytes), c.frame, 0)
		checkOpened(t, []byte(c.key), 1-c.frame.Dir, unhex(t, c.bytes), api.Frame{}, api.ErrSide)
	}
}

// P19.2: with each kind of key, each number and bodies of every length, in its direction and with other ones.
func TestOpenFrames(t *testing.T) {
	for i, key := range secrets() {
		for _, dir := range dirs {
			for _, seq := range numbers {
				b := tagged(key, headed(1, byte(dir), uint64(seq), some(seq%5, i)))
				checkOpened(t, key, dir, b, api.Frame{Dir: dir, Seq: seq, Body: some(seq%5, i)}, 0)
				checkOpened(t, key, 1-dir, b, api.Frame{}, api.ErrSide)
			}
		}
	}
	for length := 0; length <= mostBody; length++ {
		b := tagged(nil, headed(1, 1, 5, some(length, 1)))
		checkOpened(t, nil, 1, b, api.Frame{Dir: 1, Seq: 5, Body: some(length, 1)}, 0)
	}
}

// P19.2: ErrSide of a dir that is none, too, but where the byte is the same one: ErrArg there.
func TestOpenOtherDir(t *testing.T) {
	list := noDirs
	for dir := -300; dir <= 600; dir++ {
		if dir != 0 && dir != 1 {
			list = append(list, dir)
		}
	}
	key := some(20, 1)
	for _, dir := range list {
		for _, own := range dirs {
			checkOpened(t, key, dir, tagged(key, headed(1, byte(own), 1, nil)), api.Frame{}, api.ErrSide)
		}
		b := tagged(key, headed(1, byte(dir), 1, []byte("body")))
		if dir < 2 || dir > 255 {
			checkOpened(t, key, dir, b, api.Frame{}, api.ErrSide)
			continue
		}
		checkOpened(t, key, dir, b, api.Frame{}, api.ErrArg)
		checkOpened(t, key, dir, tagged(key, headed(2, byte(dir), 1, nil)), api.Frame{}, api.ErrSide)
		for _, own := range dirs {
			checkOpened(t, key, own, b, api.Frame{}, api.ErrSide)
		}
	}
}

// P19.2: ErrTag with another key: one bit of it, a byte less or more, none; but a zero behind a key of fewer than 64 bytes says nothing (P2.2).
func TestOpenOtherKey(t *testing.T) {
	for _, length := range []int{1, 20, 63, 64, 65, 130} {
		key := some(length, 2)
		b := tagged(key, headed(1, 0, 77, []byte("a body")))
		checkOpened(t, key, 0, b, api.Frame{Seq: 77, Body: []byte("a body")}, 0)
		for i := range key {
			other := bytes.Clone(key)
			other[i] ^= 1 << (i % 8)
			checkOpened(t, other, 0, b, api.Frame{}, api.ErrTag)
		}
		for _, other := range [][]byte{nil, {}, key[1:], key[:length-1], append([]byte{0}, key...), append(bytes.Clone(key), 1), append(bytes.Clone(key), key...)} {
			checkOpened(t, other, 0, b, api.Frame{}, api.ErrTag)
		}
		filled := append(bytes.Clone(key), 0)
		if length < 64 {
			checkOpened(t, filled, 0, b, api.Frame{Seq: 77, Body: []byte("a body")}, 0)
		} else {
			checkOpened(t, filled, 0, b, api.Frame{}, api.ErrTag)
		}
	}
}

// odd is bytes of a length that are no frame's, in each way: of zeros, ff and others, and such whose tag is right.
func odd(key []byte, length int) [][]byte {
	list := [][]byte{make([]byte, length), bytes.Repeat([]byte{0xff}, length), some(length, 3)}
	if length >= tagSize {
		whole := headed(1, 0, 5, make([]byte, length))[:length-tagSize]
		list = append(list, tagged(key, whole), tagged(key, some(length-tagSize, 4)))
	}
	return list
}

// P19.2: ErrCut of bytes of each length up to 25, ErrTag of 26 and more that are no frame's, ErrLong of 513 and more: also with a right tag, and with a dir that is none.
func TestOpenLengths(t *testing.T) {
	lengths := []int{600, 1000, 1024, 1050, 8192, 65536, 65562, 1 << 20}
	for length := range 560 {
		lengths = append(lengths, length)
	}
	for _, key := range few() {
		for _, length := range lengths {
			for _, b := range odd(key, length) {
				for _, dir := range []int{0, 1, 2, -1, 256} {
					switch {
					case length < 26:
						checkOpened(t, key, dir, b, api.Frame{}, api.ErrCut)
					case length > 512:
						checkOpened(t, key, dir, b, api.Frame{}, api.ErrLong)
					default:
						checkOpen(t, key, dir, b)
					}
				}
			}
		}
	}
	checkOpened(t, nil, 0, nil, api.Frame{}, api.ErrCut)
	checkOpened(t, nil, 2, nil, api.Frame{}, api.ErrCut)
}

// P19.2: a body of a byte more than there may be is ErrLong, however right the tag.
func TestOpenLongerBody(t *testing.T) {
	key := some(32, 4)
	b := tagged(key, headed(1, 1, 3, some(486, 5)))
	checkOpened(t, key, 1, b, api.Frame{Dir: 1, Seq: 3, Body: some(486, 5)}, 0)
	for _, length := range []int{487, 488, 512, 742, 65536} {
		long := tagged(key, headed(1, 1, 3, some(length, 5)))
		for _, dir := range []int{0, 1, 2} {
			checkOpened(t, key, dir, long, api.Frame{}, api.ErrLong)
		}
	}
}

// P19.2: each bit and each byte turned is ErrTag, whatever else it makes wrong, and whatever dir is.
func TestOpenTurned(t *testing.T) {
	key := some(40, 6)
	for _, body := range [][]byte{nil, []byte("body"), some(100, 1)} {
		b := tagged(key, headed(1, 1, 0x4000000000000000, body))
		for i := range b {
			for turn := 1; turn < 256; turn++ {
				if len(body) > 50 && turn&(turn-1) != 0 && turn != 0xff {
					continue
				}
				c := bytes.Clone(b)
				c[i] ^= byte(turn)
				checkOpened(t, key, 1, c, api.Frame{}, api.ErrTag)
				checkOpened(t, key, int(c[1]), c, api.Frame{}, api.ErrTag)
				checkOpened(t, key, 0, c, api.Frame{}, api.ErrTag)
			}
		}
	}
}

// P19.2: two bytes that change places, or are turned alike, are ErrTag, too.
func TestOpenTurnedTwice(t *testing.T) {
	key := some(40, 6)
	b := tagged(key, headed(1, 1, 0x0203040506070809, []byte("body")))
	for i := range b {
		for j := range i {
			c := bytes.Clone(b)
			c[i], c[j] = c[j], c[i]
			if !bytes.Equal(b, c) {
				checkOpened(t, key, 1, c, api.Frame{}, api.ErrTag)
			}
			c = bytes.Clone(b)
			c[i], c[j] = c[i]^0x80, c[j]^0x80
			checkOpened(t, key, 1, c, api.Frame{}, api.ErrTag)
		}
	}
}

// P19.2: a tag that is cut, or longer, or another frame's, is another one; where too few bytes are left it is ErrCut, where too many ErrLong.
func TestOpenOtherTag(t *testing.T) {
	key := some(10, 7)
	for _, length := range []int{0, 1, 15, 16, 17, 200, 470, 485, 486} {
		head := headed(1, 0, 9, some(length, 7))
		b := tagged(key, head)
		for n := range len(b) {
			checkOpened(t, key, 0, b[:n], api.Frame{}, unless(n < overhead, api.ErrCut, api.ErrTag))
			checkOpened(t, key, 0, b[len(b)-n:], api.Frame{}, unless(n < overhead, api.ErrCut, api.ErrTag))
		}
		for n := 1; n < 40; n++ {
			want := unless(len(b)+n > most, api.ErrLong, api.ErrTag)
			checkOpened(t, key, 0, append(bytes.Clone(b), make([]byte, n)...), api.Frame{}, want)
			checkOpened(t, key, 0, append(bytes.Clone(b), b[:min(n, len(b))]...), api.Frame{}, unless(len(b)+min(n, len(b)) > most, api.ErrLong, api.ErrTag))
		}
		other := tagged(key, headed(1, 0, 10, some(length, 7)))
		checkOpened(t, key, 0, append(bytes.Clone(head), other[len(head):]...), api.Frame{}, api.ErrTag)
		checkOpened(t, key, 0, append(bytes.Clone(head), make([]byte, tagSize)...), api.Frame{}, api.ErrTag)
	}
}

// unless is one of two errors.
func unless(first bool, a, b api.Errno) api.Errno {
	if first {
		return a
	}
	return b
}

// P19.2: of frames that are sealed anew, with another version, direction or number, the first error that holds: each alone, and several at once.
func TestOpenSealedAnew(t *testing.T) {
	key := some(32, 8)
	seqs := []uint64{1, 258, greatest, 0, greatest + 1, greatest + 256, 1 << 63, 1<<63 + 1, 1<<63 + greatest, 1<<64 - 1, 1<<63 - 1, 1 << 62 * 3, 0xc000000000000001, 0x8000000000000100}
	asked := append([]int{0, 1}, noDirs...)
	for _, version := range []byte{0, 1, 2, 3, 0x10, 0x81, 0xff} {
		for _, dir := range []byte{0, 1, 2, 3, 0x10, 0x80, 0x81, 0xfe, 0xff} {
			for _, seq := range seqs {
				for _, body := range [][]byte{nil, []byte("body")} {
					b := tagged(key, headed(version, dir, seq, body))
					wrong := bytes.Clone(b)
					wrong[len(b)-1] ^= 1
					for _, d := range asked {
						checkOpen(t, key, d, b)
						checkOpened(t, key, d, wrong, api.Frame{}, api.ErrTag)
					}
				}
			}
		}
	}
}

// P19.2: ErrSide of each version but 1, with a right number and with one that is none.
func TestOpenOtherVersion(t *testing.T) {
	key := some(70, 9)
	for version := range 256 {
		for _, seq := range []uint64{5, 0, 1 << 63} {
			for _, dir := range dirs {
				b := tagged(key, headed(byte(version), byte(dir), seq, []byte("body")))
				if version != 1 {
					checkOpened(t, key, dir, b, api.Frame{}, api.ErrSide)
				}
				checkOpened(t, key, 1-dir, b, api.Frame{}, api.ErrSide)
				checkOpened(t, key, 2, b, api.Frame{}, api.ErrSide)
				checkOpen(t, key, dir, b)
			}
		}
	}
}

// P19.2: ErrArg of each number that isn't one: of those with the highest bits set, too.
func TestOpenOtherSeq(t *testing.T) {
	key := some(64, 10)
	for _, seq := range noNumbers {
		for _, dir := range dirs {
			for _, body := range [][]byte{nil, {1}, some(486, 1)} {
				b := tagged(key, headed(1, byte(dir), uint64(seq), body))
				checkOpened(t, key, dir, b, api.Frame{}, api.ErrArg)
				checkOpened(t, key, 1-dir, b, api.Frame{}, api.ErrSide)
			}
		}
	}
	for shift := range 64 {
		for _, seq := range []uint64{1 << shift, 1<<shift + 1, 1<<shift - 1, 1<<63 | 1<<shift, 1<<62 | 1<<shift} {
			checkOpen(t, key, 1, tagged(key, headed(1, 1, seq, []byte("x"))))
		}
	}
}
