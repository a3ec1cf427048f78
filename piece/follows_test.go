package piece_test

import (
	"bytes"
	"testing"

	"shutter/api"
	"shutter/piece"
)

// checkBack writes a pack that may be, reads it, and writes it again.
func checkBack(t *testing.T, p api.Pack) {
	t.Helper()
	b, err := piece.Write(p)
	if err != nil {
		t.Fatalf("%s: %v", told(p), err)
	}
	q, err := piece.Read(b)
	if err != nil || !alike(p, q) || !piece.Same(p, q) {
		t.Fatalf("%s: back %s, %v", told(p), told(q), err)
	}
	again, err := piece.Write(q)
	if err != nil || !bytes.Equal(b, again) {
		t.Fatalf("%s: %x, not %x, %v", told(p), again, b, err)
	}
}

// joined is a message, by its pieces as they are read from what is written.
func joined(t *testing.T, list []api.Pack) []byte {
	t.Helper()
	msg := []byte{}
	for _, p := range list {
		b, err := piece.Write(p)
		if err != nil {
			t.Fatalf("%s: %v", told(p), err)
		}
		q, err := piece.Read(b)
		if err != nil || !piece.Same(p, q) {
			t.Fatalf("%s: back %s, %v", told(p), told(q), err)
		}
		msg = append(msg, q.Data...)
	}
	return msg
}

// P22.3: pieces one behind the other are the message, the last one alone is Last, and each is written and read as it was: of every length.
func TestPiecesAreTheMessage(t *testing.T) {
	c := chance(1)
	for length := 1; length <= mostMessage; length++ {
		if length > 200 && length < mostMessage-200 && length%7 != 0 {
			continue
		}
		msg := c.bytes(length)
		list, err := piece.Cut(msg)
		if err != nil {
			t.Fatalf("%d bytes: %v", length, err)
		}
		if !bytes.Equal(joined(t, list), msg) {
			t.Fatalf("%d bytes: others behind one another", length)
		}
		for i, p := range list {
			if p.Num != i+1 || p.Ack != 0 || p.Last != (i == len(list)-1) || !p.Last && len(p.Data) != 64 {
				t.Fatalf("%d bytes: %s at %d", length, told(p), i)
			}
		}
	}
}

// P22.3: what is written is read as it was: with each pair of numbers, and Data of every length.
func TestWrittenIsRead(t *testing.T) {
	for i, ack := range append(numbers, 0) {
		checkBack(t, api.Pack{Ack: ack})
		for j, num := range numbers {
			checkBack(t, api.Pack{Ack: ack, Num: num, Last: true, Data: some(1+(i*j)%mostData, j)})
			checkBack(t, api.Pack{Ack: ack, Num: num, Data: some(mostData, i+j)})
		}
	}
	for length := 1; length <= mostData; length++ {
		for _, data := range lists(length) {
			checkBack(t, api.Pack{Ack: greatest - length, Num: length, Last: true, Data: data})
		}
	}
}

// P22.3: what is read is written as it stood: of bytes of no rule and of a pack's shape, those that are read at all.
func TestReadIsWritten(t *testing.T) {
	c := chance(2)
	count := 0
	for range 100000 {
		b := laid(uint32(c.below(1<<32)), uint32(c.below(1<<32))>>c.below(33), byte(c.below(3)), c.bytes([]int{0, 1, c.below(70), 63, 64, 65}[c.below(6)]))
		checkRead(t, b)
		p, err := piece.Read(b)
		if err != nil {
			continue
		}
		count++
		again, err := piece.Write(p)
		if err != nil || !bytes.Equal(b, again) {
			t.Fatalf("%x, not %x, %v", again, b, err)
		}
	}
	if count < 1000 {
		t.Errorf("only %d were read", count)
	}
}

// P22.3: two packs that aren't alike have other bytes.
func TestBytesTellThePack(t *testing.T) {
	seen := map[string]api.Pack{}
	for _, p := range packs() {
		b, err := piece.Write(p)
		if err != nil {
			continue
		}
		if q, found := seen[string(b)]; found {
			t.Errorf("%s and %s: the bytes %x", told(p), told(q), b)
		}
		seen[string(b)] = p
	}
}
