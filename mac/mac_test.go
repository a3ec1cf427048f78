package mac_test

import (
	"bytes"
	"crypto/hmac"
	"crypto/sha256"
	"encoding/hex"
	"slices"
	"strings"
	"testing"
	"time"

	"shutter/mac"
)

// keyLengths lie about the length of a block, where a key begins to be summed, and about that of a sum.
var keyLengths = []int{0, 1, 2, 15, 16, 17, 20, 31, 32, 33, 55, 56, 62, 63, 64, 65, 66, 96, 127, 128, 129, 131, 256, 1000}

// textLengths lie about the ends of blocks.
var textLengths = []int{0, 1, 8, 54, 55, 56, 63, 64, 65, 119, 120, 127, 128, 129, 512, 1000}

// some is bytes without a zero, that are others for another seed.
func some(length, seed int) []byte {
	b := make([]byte, 0, length)
	for i := range length {
		b = append(b, byte(1+(i*i+3*i+11*seed)%251))
	}
	return b
}

// published is what the library says that the code is.
func published(key, text []byte) [32]byte {
	m := hmac.New(sha256.New, key)
	m.Write(text)
	return [32]byte(m.Sum(nil))
}

// check holds both the code and the tag of the parts against a code.
func check(t *testing.T, what string, want [32]byte, key []byte, parts ...[]byte) {
	t.Helper()
	if got := mac.Code(key, parts...); got != want {
		t.Errorf("%s: the code %x, not %x", what, got, want)
	}
	if got := mac.Tag(key, parts...); got != [16]byte(want[:16]) {
		t.Errorf("%s: the tag %x, not %x", what, got, want[:16])
	}
}

func unhex(t *testing.T, digits string) []byte {
	t.Helper()
	b, err := hex.DecodeString(digits)
	if err != nil {
		t.Fatal(err)
	}
	return b
}

// P2.1: the codes of RFC 4231, and those of an empty key and of an empty text.
func TestCodePublished(t *testing.T) {
	longer := "This is a test using a larger than block-size key and a larger than block-size data. " +
		"The key needs to be hashed before being used by the HMAC algorithm."
	for _, c := range []struct{ key, text, code string }{
		{strings.Repeat("0b", 20), "Hi There", "b0344c61d8db38535ca8afceaf0bf12b881dc200c9833da726e9376c2e32cff7"},
		{"4a656665", "what do ya want for nothing?", "5bdcc146bf60754e6a042426089575c75a003f089d2739839dec58b964ec3843"},
		{strings.Repeat("aa", 20), strings.Repeat("\xdd", 50), "773ea91e36800e46854db8ebd09181a72959098b3ef8c122d9635514ced565fe"},
		{"0102030405060708090a0b0c0d0e0f10111213141516171819", strings.Repeat("\xcd", 50), "82558a389a443c0ea4cc819899f2083a85f0faa3e578f8077a2e3ff46729665b"},
		{strings.Repeat("aa", 131), "Test Using Larger Than Block-Size Key - Hash Key First", "60e431591ee0b67f0d8a26aacbf5b77f8e0bc6213728c5140546040f0ee37f54"},
		{strings.Repeat("aa", 131), longer, "9b09ffa71b942fcb27635fbcd5b0e944bfdc63644f0713938a7f51535c3a35e2"},
		{"", "", "b613679a0814d9ec772f95d778c35fc5ff1697c493715653c6c712144292c5ad"},
		{"6b6579", "The quick brown fox jumps over the lazy dog", "f7bc83f430538424b13298e6aa6fb143ef4d59a14946175997479dbc2d1a3cd8"},
	} {
		check(t, c.text, [32]byte(unhex(t, c.code)), unhex(t, c.key), []byte(c.text))
	}
}

// P2.1: the tag that RFC 4231 published of its fifth example is 16 bytes, as ours are.
func TestTagPublished(t *testing.T) {
	tag := mac.Tag(unhex(t, strings.Repeat("0c", 20)), []byte("Test With Truncation"))
	if got := hex.EncodeToString(tag[:]); got != "a3b6167473100ee06e0c796c2955552b" {
		t.Errorf("the tag %s", got)
	}
}

// P2.1: no part at all, and parts without a byte, are the empty text; whatever the key.
func TestEmptyText(t *testing.T) {
	for _, length := range keyLengths {
		key := some(length, 1)
		want := published(key, nil)
		check(t, "no part", want, key)
		check(t, "a nil list", want, key, [][]byte(nil)...)
		check(t, "a nil part", want, key, nil)
		check(t, "an empty part", want, key, []byte{})
		check(t, "empty parts", want, key, nil, []byte{}, nil)
		if mac.Code(key, []byte{0}) == want {
			t.Errorf("a key of %d bytes: a zero is no empty text", length)
		}
	}
}

// P2.1: nil and a list without a byte are the same key.
func TestEmptyKey(t *testing.T) {
	for _, length := range textLengths {
		text := some(length, 2)
		want := published(nil, text)
		check(t, "a nil key", want, nil, text)
		check(t, "an empty key", want, []byte{}, text)
	}
}

// P2.1: keys of all lengths about a block's, and texts about the ends of blocks.
func TestEveryKeyLength(t *testing.T) {
	for length := range 200 {
		key := some(length, 3)
		for _, n := range textLengths {
			text := some(n, 4)
			check(t, "a key of "+hex.EncodeToString(key), published(key, text), key, text)
		}
	}
	for _, length := range keyLengths {
		key := bytes.Repeat([]byte{0xff}, length)
		check(t, "a key of ff", published(key, key), key, key)
	}
}

// P2.1: a key of 64 bytes is taken as it is; of one with a byte more the sum is.
func TestLongKeyIsSummed(t *testing.T) {
	text := []byte("a text")
	for _, length := range keyLengths {
		key := some(length, 5)
		sum := sha256.Sum256(key)
		alike := mac.Code(key, text) == mac.Code(sum[:], text)
		if alike != (length > 64) {
			t.Errorf("a key of %d bytes: its sum's code is alike: %t", length, alike)
		}
	}
}

// P2.1: each byte of the key and of the text counts, and what is the key is not the text.
func TestEachByteCounts(t *testing.T) {
	text := some(130, 6)
	for _, length := range []int{20, 63, 64, 65, 130} {
		key := some(length, 7)
		want := mac.Code(key, text)
		for i := range key {
			other := bytes.Clone(key)
			other[i] ^= 1
			check(t, "another key", published(other, text), other, text)
			if mac.Code(other, text) == want {
				t.Errorf("a key of %d bytes: byte %d doesn't count", length, i)
			}
		}
		for i := range text {
			other := bytes.Clone(text)
			other[i] ^= 0x80
			if mac.Code(key, other) == want {
				t.Errorf("a key of %d bytes: byte %d of the text doesn't count", length, i)
			}
		}
		check(t, "the other way round", published(text, key), text, key)
	}
}

// P2.1: parts stand one behind the other, in their order.
func TestPartsInOrder(t *testing.T) {
	key, a, b := []byte("key"), []byte("one "), []byte("two ")
	check(t, "a b", published(key, []byte("one two ")), key, a, b)
	check(t, "b a", published(key, []byte("two one ")), key, b, a)
	check(t, "a a", published(key, []byte("one one ")), key, a, a)
}

// P2.2: texts cut in two and in three, at every place.
func TestCutAtEveryPlace(t *testing.T) {
	for _, length := range []int{0, 20, 64, 65} {
		key := some(length, 8)
		for _, n := range textLengths {
			text := some(n, 9)
			want := published(key, text)
			for i := range n + 1 {
				check(t, "two parts", want, key, text[:i], text[i:])
			}
		}
		text := some(67, 10)
		want := published(key, text)
		for i := range len(text) + 1 {
			for j := i; j <= len(text); j++ {
				check(t, "three parts", want, key, text[:i], text[i:j], text[j:])
			}
		}
	}
}

// P2.2: a part a byte, with empty ones in between.
func TestCutInMany(t *testing.T) {
	key, text := some(32, 11), some(300, 12)
	var parts [][]byte
	for part := range slices.Chunk(text, 1) {
		parts = append(parts, nil, part)
	}
	check(t, "many parts", published(key, text), key, parts...)
}

// P2.2: zeros behind a key change nothing till it has 64 bytes; behind that, and ahead of a key, they do.
func TestZeroBehindKey(t *testing.T) {
	text := []byte("a text")
	for length := range 130 {
		key := some(length, 13)
		longer := append(bytes.Clone(key), 0)
		code, tag := mac.Code(key, text), mac.Tag(key, text)
		alike := code == mac.Code(longer, text)
		if alike != (length < 64) || alike != (tag == mac.Tag(longer, text)) {
			t.Errorf("a key of %d bytes, and it with a zero behind it: alike: %t", length, alike)
		}
		for n := length; n <= 64; n++ {
			check(t, "zeros behind a key", code, append(bytes.Clone(key), make([]byte, n-length)...), text)
		}
		if length > 0 && code == mac.Code(append([]byte{0}, key...), text) {
			t.Errorf("a key of %d bytes: a zero ahead of it doesn't count", length)
		}
	}
	zeros := make([]byte, 64)
	check(t, "a key of zeros", mac.Code(nil, text), zeros, text)
	if mac.Code(zeros, text) == mac.Code(append(zeros, 0), text) {
		t.Error("65 zeros are no key of 64")
	}
}

// P2.1: nothing is like nothing, nil or empty, and like nothing else.
func TestEqualNothing(t *testing.T) {
	for _, a := range [][]byte{nil, {}} {
		for _, b := range [][]byte{nil, {}} {
			if !mac.Equal(a, b) {
				t.Errorf("%v and %v aren't equal", a, b)
			}
		}
		for _, b := range [][]byte{{0}, {1}, make([]byte, 16), make([]byte, 256)} {
			if mac.Equal(a, b) || mac.Equal(b, a) {
				t.Errorf("nothing and %v are equal", b)
			}
		}
	}
}

// P2.1: a list is like itself and like its copy, of every length.
func TestEqualAlike(t *testing.T) {
	for length := range 300 {
		a := some(length, 14)
		if !mac.Equal(a, a) || !mac.Equal(a, bytes.Clone(a)) {
			t.Errorf("%v isn't equal to itself", a)
		}
		zeros := make([]byte, length)
		if !mac.Equal(zeros, make([]byte, length)) {
			t.Errorf("%d zeros aren't equal to so many", length)
		}
	}
}

// P2.1: lists of other lengths aren't alike, though the one begins or ends as the other.
func TestEqualOtherLengths(t *testing.T) {
	whole, zeros := some(600, 15), make([]byte, 600)
	for _, n := range []int{1, 2, 15, 16, 17, 255, 256, 257, 600} {
		for m := range n {
			for _, b := range [][]byte{whole[:m], whole[n-m : n], zeros[:m]} {
				if mac.Equal(whole[:n], b) || mac.Equal(b, whole[:n]) {
					t.Errorf("%d bytes are equal to %d", n, m)
				}
			}
			if mac.Equal(zeros[:n], zeros[:m]) || mac.Equal(zeros[:m], zeros[:n]) {
				t.Errorf("%d zeros are equal to %d", n, m)
			}
		}
	}
}

// P2.1: lists that differ in one byte alone, the first, the last or any in between, by any one bit.
func TestEqualOneByte(t *testing.T) {
	for _, length := range []int{1, 2, 3, 16, 32, 64, 257} {
		a := some(length, 16)
		for i := range a {
			for bit := range 8 {
				b := bytes.Clone(a)
				b[i] ^= 1 << bit
				if mac.Equal(a, b) || mac.Equal(b, a) {
					t.Errorf("of %d bytes byte %d differs, but they are equal", length, i)
				}
			}
		}
	}
}

// P2.1: differences don't make up for each other.
func TestEqualManyBytes(t *testing.T) {
	for _, c := range [][2][]byte{
		{{1, 2}, {2, 1}},
		{{1, 1}, {2, 2}},
		{{0, 0}, {0xff, 0xff}},
		{{1, 3}, {3, 1}},
		{{0x80, 0x80}, {0, 0}},
		{{1, 2, 3, 4}, {4, 3, 2, 1}},
		{bytes.Repeat([]byte{1}, 256), make([]byte, 256)},
	} {
		if mac.Equal(c[0], c[1]) || mac.Equal(c[1], c[0]) {
			t.Errorf("%v and %v are equal", c[0], c[1])
		}
	}
}

// soonest is the shortest of some times that Equal takes.
func soonest(a, b []byte) time.Duration {
	least := time.Hour
	for range 20 {
		begin := time.Now()
		mac.Equal(a, b)
		least = min(least, time.Since(begin))
	}
	return least
}

// P2.1: lists as long are looked at whole: were the rest not looked at behind the first difference, one at the beginning would be found in far less time than one at the end.
func TestEqualLooksAtWhole(t *testing.T) {
	a := make([]byte, 1<<20)
	first, last := bytes.Clone(a), bytes.Clone(a)
	first[0], last[len(last)-1] = 1, 1
	if x, y := soonest(a, first), soonest(a, last); x < y/10 {
		t.Errorf("%v where the first byte differs, %v where the last does", x, y)
	}
}

// P2.3: neither the key, nor the list of parts, nor a part, nor what lies behind any of them, is changed.
func TestHandedInStays(t *testing.T) {
	for _, length := range keyLengths {
		for _, n := range textLengths {
			keys, texts := some(length+200, 17), some(n+200, 18)
			oldKeys, oldTexts := bytes.Clone(keys), bytes.Clone(texts)
			parts := [][]byte{texts[:n/2], nil, texts[n/2 : n], texts[:1], texts[:1]}
			mac.Code(keys[:length], parts[:3]...)
			mac.Tag(keys[:length], parts[:3]...)
			mac.Equal(keys[:length], texts[:n])
			if !bytes.Equal(keys, oldKeys) || !bytes.Equal(texts, oldTexts) {
				t.Errorf("a key of %d bytes, a text of %d: changed", length, n)
			}
			if len(parts[0]) != n/2 || parts[1] != nil || len(parts[2]) != n-n/2 || len(parts[3]) != 1 || len(parts[4]) != 1 {
				t.Errorf("a key of %d bytes, a text of %d: the list is changed", length, n)
			}
		}
	}
	a := some(100, 19)
	b, old := bytes.Clone(a), bytes.Clone(a)
	mac.Equal(a, b)
	mac.Equal(a[:50], b[50:])
	if !bytes.Equal(a, old) || !bytes.Equal(b, old) {
		t.Error("Equal changed a list")
	}
}

// P2.3: nothing is kept of what was handed in: a call that comes later, or that is given it changed, knows nothing of it.
func TestHandedInIsNotKept(t *testing.T) {
	key, text := some(40, 20), some(90, 21)
	want := published(key, text)
	for i := range 40 {
		check(t, "as before", want, key, text)
		other := bytes.Clone(key)
		other[i] ^= 0xff
		check(t, "another key", published(other, text), other, text)
		copy(other, key)
		check(t, "changed back", want, other, text)
	}
}

// P2.3: key and text may be the same bytes, or lie one in the other.
func TestHandedInTwice(t *testing.T) {
	b := some(150, 22)
	for _, length := range keyLengths[:16] {
		key := b[:length]
		check(t, "the key is the text", published(key, key), key, key)
		check(t, "the key is its beginning", published(key, b), key, b)
		check(t, "the key is each part", published(key, bytes.Repeat(key, 2)), key, key, key)
		if !mac.Equal(key, key) || !mac.Equal(b[:length/2], key[:length/2]) {
			t.Errorf("%d bytes aren't equal to themselves", length)
		}
	}
}
