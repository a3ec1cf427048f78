package hash_test

import (
	"bytes"
	"crypto/sha256"
	"encoding/hex"
	"slices"
	"strings"
	"testing"

	"shutter/hash"
)

// lengths lie about the ends of blocks, and about where the length has no room in the last block any more.
var lengths = []int{0, 1, 2, 3, 54, 55, 56, 57, 62, 63, 64, 65, 66, 118, 119, 120, 121, 126, 127, 128, 129, 183, 184, 191, 192, 193, 255, 256, 257, 1000, 8192}

// text is some bytes that don't repeat at a block's length.
func text(length int) []byte {
	b := make([]byte, length)
	for i := range b {
		b[i] = byte(i*i + 7*i + i/64 + length)
	}
	return b
}

func want(t *testing.T, what string, got, want [32]byte) {
	t.Helper()
	if got != want {
		t.Errorf("%s: %x, not %x", what, got, want)
	}
}

// P1.1: the sums that were published.
func TestOfPublished(t *testing.T) {
	for _, c := range []struct{ text, sum string }{
		{"", "e3b0c44298fc1c149afbf4c8996fb92427ae41e4649b934ca495991b7852b855"},
		{"abc", "ba7816bf8f01cfea414140de5dae2223b00361a396177a9cb410ff61f20015ad"},
		{"abcdbcdecdefdefgefghfghighijhijkijkljklmklmnlmnomnopnopq", "248d6a61d20638b8e5c026930c3e6039a33ce45964ff2167f6ecedd419db06c1"},
		{"abcdefghbcdefghicdefghijdefghijkefghijklfghijklmghijklmnhijklmnoijklmnopjklmnopqklmnopqrlmnopqrsmnopqrstnopqrstu", "cf5b16a778af8380036ce59e7b0492370b249b11e8f07a51afac45037afee9d1"},
		{strings.Repeat("a", 1000000), "cdc76e5c9914fb9281a1c7e284d73e67f1809a48a497200e046d39ccc7112cd0"},
	} {
		sum := hash.Of([]byte(c.text))
		if hex.EncodeToString(sum[:]) != c.sum {
			t.Errorf("of %d bytes: %x, not %s", len(c.text), sum, c.sum)
		}
	}
}

// P1.1: no part, and parts without a byte, are the empty text.
func TestOfNothing(t *testing.T) {
	empty := sha256.Sum256(nil)
	want(t, "no part", hash.Of(), empty)
	want(t, "a nil list", hash.Of([][]byte(nil)...), empty)
	want(t, "a nil part", hash.Of(nil), empty)
	want(t, "an empty part", hash.Of([]byte{}), empty)
	want(t, "empty parts", hash.Of(nil, []byte{}, nil), empty)
	if hash.Of([]byte{0}) == empty {
		t.Error("a zero is no empty text")
	}
}

// P1.1: every length about the ends of the first blocks, and bytes of all values.
func TestOfEveryLength(t *testing.T) {
	for length := range 400 {
		b := text(length)
		want(t, "of "+hex.EncodeToString(b), hash.Of(b), sha256.Sum256(b))
		ones := bytes.Repeat([]byte{0xff}, length)
		want(t, "of "+hex.EncodeToString(ones), hash.Of(ones), sha256.Sum256(ones))
	}
	all := make([]byte, 256)
	for i := range all {
		all[i] = byte(i)
	}
	want(t, "all bytes", hash.Of(all), sha256.Sum256(all))
}

// P1.1, P1.3: parts stand one behind the other, in their order.
func TestOfOrder(t *testing.T) {
	a, b := []byte("one "), []byte("two ")
	want(t, "a b", hash.Of(a, b), sha256.Sum256([]byte("one two ")))
	want(t, "b a", hash.Of(b, a), sha256.Sum256([]byte("two one ")))
	want(t, "a a", hash.Of(a, a), sha256.Sum256([]byte("one one ")))
}

// P1.2: a sum that nothing was added to.
func TestNew(t *testing.T) {
	empty := sha256.Sum256(nil)
	want(t, "new", hash.New().End(), empty)
	want(t, "no part added", hash.New().Add().End(), empty)
	want(t, "empty parts added", hash.New().Add(nil, []byte{}).Add(nil).End(), empty)
}

// P1.2: Add answers the sum itself.
func TestAddAnswersItself(t *testing.T) {
	s := hash.New()
	if s.Add() != s || s.Add(nil) != s || s.Add(text(3), text(100)) != s {
		t.Error("Add answers another sum")
	}
}

// P1.2: a sum may grow on behind End, which tells all that was added till then, as often as it is asked.
func TestEndInBetween(t *testing.T) {
	b := text(300)
	s := hash.New()
	for i := range b {
		want(t, "ahead of a byte", s.End(), sha256.Sum256(b[:i]))
		want(t, "asked again", s.End(), sha256.Sum256(b[:i]))
		s.Add(b[i : i+1])
	}
	want(t, "at the end", s.End(), sha256.Sum256(b))
	for _, length := range lengths {
		b := text(2 * length)
		s := hash.New().Add(b[:length])
		want(t, "first half", s.End(), sha256.Sum256(b[:length]))
		want(t, "both halves", s.Add(b[length:]).End(), sha256.Sum256(b))
	}
}

// P1.2: sums that grow side by side know nothing of each other.
func TestSumsApart(t *testing.T) {
	b, c := text(500), text(501)
	s, u := hash.New(), hash.New()
	for i := range b {
		s.Add(b[i : i+1])
		u.Add(c[i : i+1])
		hash.Of(b[:i])
	}
	want(t, "the one", s.End(), sha256.Sum256(b))
	want(t, "the other", u.End(), sha256.Sum256(c[:500]))
}

// P1.3: texts cut in two and in three, at every place.
func TestCutAtEveryPlace(t *testing.T) {
	for _, length := range lengths {
		b := text(length)
		sum := sha256.Sum256(b)
		for i := range length + 1 {
			want(t, "of two parts", hash.Of(b[:i], b[i:]), sum)
			want(t, "two added at once", hash.New().Add(b[:i], b[i:]).End(), sum)
			want(t, "one added, then another", hash.New().Add(b[:i]).Add(b[i:]).End(), sum)
		}
	}
	b := text(130)
	sum := sha256.Sum256(b)
	for i := range len(b) + 1 {
		for j := i; j <= len(b); j++ {
			want(t, "of three parts", hash.Of(b[:i], b[i:j], b[j:]), sum)
			want(t, "three added", hash.New().Add(b[:i]).Add(b[i:j], b[j:]).End(), sum)
		}
	}
}

// P1.3: parts of one length each, with empty ones in between.
func TestCutInMany(t *testing.T) {
	b := text(1000)
	sum := sha256.Sum256(b)
	for length := 1; length <= 200; length++ {
		var parts [][]byte
		for part := range slices.Chunk(b, length) {
			parts = append(parts, part, nil)
		}
		want(t, "of many parts", hash.Of(parts...), sum)
		s := hash.New()
		for _, part := range parts {
			s.Add(part)
		}
		want(t, "many added", s.End(), sum)
	}
}

// P1.4: neither the list of parts, nor a part, nor what lies behind it, is changed.
func TestHandedInStays(t *testing.T) {
	for _, length := range lengths {
		whole := text(length + 200)
		old := bytes.Clone(whole)
		half := length / 2
		parts := [][]byte{whole[:half], nil, whole[half:length]}
		hash.Of(parts...)
		s := hash.New().Add(parts...)
		s.End()
		s.Add(parts[0]).End()
		if !bytes.Equal(whole, old) {
			t.Errorf("%d bytes: changed", length)
		}
		if len(parts) != 3 || len(parts[0]) != half || parts[1] != nil || len(parts[2]) != length-half {
			t.Errorf("%d bytes: the list is changed", length)
		}
	}
}

// P1.4: what was handed in may be changed behind the call.
func TestHandedInIsNotKept(t *testing.T) {
	for _, length := range lengths {
		b := text(length)
		sum := sha256.Sum256(b)
		parts := [][]byte{bytes.Clone(b)}
		s := hash.New().Add(parts...)
		for i := range parts[0] {
			parts[0][i] ^= 0xff
		}
		parts[0] = []byte("another")
		want(t, "changed behind Add", s.End(), sum)
	}
	b := text(300)
	s, buffer := hash.New(), make([]byte, 1)
	for _, x := range b {
		buffer[0] = x
		s.Add(buffer)
	}
	want(t, "one buffer for all", s.End(), sha256.Sum256(b))
}

// P1.4: what was answered may be changed.
func TestAnsweredIsNew(t *testing.T) {
	b := text(100)
	s := hash.New().Add(b)
	x, y := s.End(), hash.Of(b)
	clear(x[:])
	clear(y[:])
	want(t, "End again", s.End(), sha256.Sum256(b))
	want(t, "Of again", hash.Of(b), sha256.Sum256(b))
}

// P1: no call panics.
func TestNilSum(t *testing.T) {
	var s *hash.Sum
	if s.Add() != nil || s.Add([]byte("abc")) != nil {
		t.Error("Add to no sum answers one")
	}
	want(t, "the end of no sum", s.End(), [32]byte{})
}
