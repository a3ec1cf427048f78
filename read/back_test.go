package read_test

import (
	"bytes"
	"testing"

	"shutter/api"
	"shutter/grid"
	"shutter/host"
	"shutter/input"
	"shutter/order"
	"shutter/paint"
	"shutter/read"
	"shutter/stream"
)

// checkRightIn holds what Modified answers against layer 9: it is right, and, if it isn't too long, written and read it is as it was, and it is what Reply tells.
func checkRightIn(t *testing.T, s api.Screen, aid byte) {
	t.Helper()
	size := len(s.Cells)
	in, err := read.Modified(s, aid)
	if err != nil || input.Right(in, size) != nil {
		t.Fatalf("%v, %x: %v, %v, %v", brief(s), aid, briefIn(in), err, input.Right(in, size))
	}
	if len(inBytes(in, size)) > longest {
		return
	}
	b, err := input.Write(in, size)
	if err != nil {
		t.Fatalf("%v, %x: %v", brief(s), aid, err)
	}
	if back, err := input.Read(b, size); err != nil || !input.Same(back, in) {
		t.Fatalf("%v, %x: %v, %v, not %v", brief(s), aid, briefIn(back), err, briefIn(in))
	}
	if reply, err := read.Reply(s, api.CmdMod, aid); err != nil || !bytes.Equal(reply, b) {
		t.Fatalf("%v, %x: %x, %v", brief(s), aid, reply, err)
	}
}

// checkMakes holds orders, painted from the place at on an empty screen of the same size, against the screen, with its cursor.
func checkMakes(t *testing.T, s api.Screen, at int, orders []api.Order) {
	t.Helper()
	empty, err := grid.New(s.Rows, s.Cols)
	if err != nil {
		t.Fatal(err)
	}
	s.Locked, s.Insert = false, false
	if got, _, err := paint.All(empty, at, orders); err != nil || !grid.Same(got, s) {
		t.Fatalf("%v, from %d: %v, %v", brief(s), at, brief(got), err)
	}
}

// checkImageBack holds the image against the screen: its orders are right, and, painted from any of these places on, also written and read before that, if they aren't too long, they make the screen.
func checkImageBack(t *testing.T, s api.Screen, places ...int) {
	t.Helper()
	size := len(s.Cells)
	image := read.Image(s)
	for _, o := range image {
		if err := order.Right(o, size); err != nil {
			t.Fatalf("%v: %v, %v", brief(s), o, err)
		}
	}
	for _, at := range places {
		checkMakes(t, s, at, image)
	}
	if len(writeBytes(image, size)) > longest {
		return
	}
	b, err := stream.Write(api.Out{Cmd: api.CmdWrite, Orders: image}, size)
	if err != nil {
		t.Fatalf("%v: %v", brief(s), err)
	}
	back, err := stream.Read(b, size)
	if err != nil || !stream.Same(back, api.Out{Cmd: api.CmdWrite, Orders: image}) {
		t.Fatalf("%v: %v, %v", brief(s), back, err)
	}
	checkMakes(t, s, places[len(places)-1], back.Orders)
	if reply, err := read.Reply(s, api.CmdRead, 0); err != nil || !bytes.Equal(reply, b) {
		t.Fatalf("%v: %x, %v", brief(s), reply, err)
	}
}

// P18.3: Modified of every small screen, and of screens of many kinds, is a right submission, which written and read is as it was.
func TestModifiedIsRight(t *testing.T) {
	everyDesk(func(s api.Screen) {
		for _, aid := range []byte{0x7d, 0x7c, 0xf9, 0x6d, 0x6b} {
			checkRightIn(t, s, aid)
		}
	})
}

// P18.3: Modified of each key that asks is a right submission; of great screens, too, where it may be too long.
func TestModifiedOfGreatScreensIsRight(t *testing.T) {
	for _, picture := range pictures {
		for _, list := range [][]byte{bares, tellers} {
			for _, aid := range list {
				checkRightIn(t, drawn(picture, len(drawn(picture, 0).Cells)-1), aid)
			}
		}
	}
	everyGreat(func(s api.Screen) { checkRightIn(t, s, 0x7d) })
}

// P18.3: the image of every small screen, and of screens of many kinds, painted from each cell on an empty screen, also written and read before that, is the screen, with its cursor.
func TestImageMakesTheScreen(t *testing.T) {
	everyDesk(func(s api.Screen) {
		for at := range s.Cells {
			checkImageBack(t, s, at)
		}
	})
}

// P18.3: the image of screens as large as may be, and of such that their writes are, makes the screen.
func TestImageMakesGreatScreens(t *testing.T) {
	everyGreat(func(s api.Screen) { checkImageBack(t, s, 0, len(s.Cells)-1) })
	for _, s := range []api.Screen{filled(shape{1, 8186}, "a.b"), filled(shape{8186, 1}, "."), filled(shape{1, 4093}, "OpQ"), filled(shape{3, 2728}, "ab_d.c"), filled(shape{2, 2728}, "oa")} {
		checkImageBack(t, s, 5)
		s.Cursor = len(s.Cells) - 1
		checkImageBack(t, s, 0)
	}
}

// P18.3: the reply to a host that reads, done as an erase and write on a screen of the same size, whatever was on it, makes the screen.
func TestReplyMakesTheScreen(t *testing.T) {
	for _, picture := range pictures {
		s := drawn(picture, 0)
		for s.Cursor = range s.Cells {
			b, err := read.Reply(s, api.CmdRead, 0)
			out, wrong := stream.Read(b, len(s.Cells))
			if err != nil || wrong != nil {
				t.Fatalf("%v: %x, %v, %v", s, b, err, wrong)
			}
			for _, cmd := range []int{api.CmdWrite, api.CmdErase} {
				out.Cmd = cmd
				before := filled(shape{s.Rows, s.Cols}, "cO.Qa")
				before.Cursor = len(s.Cells) - 1
				if got, err := host.Do(before, out); err != nil || !grid.Same(got, s) {
					t.Fatalf("%v: %v, %v", s, got, err)
				}
			}
		}
	}
}
