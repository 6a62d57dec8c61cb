package sink_test

import (
	"bytes"
	"math"
	"math/rand/v2"
	"testing"

	"pantograph/api"
	"pantograph/binlog"
	"pantograph/disk"
	"pantograph/event"
	"pantograph/lay"
	"pantograph/state"
)

// P16.1: of a disk without files log is made, without bytes, and the sink has
// nothing.
func TestOpenNew(t *testing.T) {
	for _, room := range []int{0, 1, plenty, math.MaxInt} {
		d := disk.New(room)
		wantDeeds(t, d, 1, func() { wantSink(t, open(t, d), state.New(), 0, false) })
		wantFiles(t, d, "log", "")
		// Opened once more it is the same, and nothing is done.
		wantDeeds(t, d, 0, func() { wantSink(t, open(t, d), state.New(), 0, false) })
		wantFiles(t, d, "log", "")
	}
}

// P16.1: the state is what the log's groups make, and a log without a tail stays
// as it is.
func TestOpenLog(t *testing.T) {
	all := some()
	for n := range len(all) + 1 {
		b := log(all[:n])
		d := laid(t, len(b), "log", string(b))
		wantDeeds(t, d, 0, func() { wantSink(t, open(t, d), made(all[:n]), len(b), false) })
		wantFiles(t, d, "log", string(b))
	}
}

// P16.1: new is removed, whatever it is, and other files stay.
func TestOpenRemovesNew(t *testing.T) {
	b := log(some())
	for _, left := range [][]byte{nil, []byte("x"), b, compact(made(some())), make([]byte, 5000)} {
		d := laid(t, plenty, "log", string(b), "lo", "a", "new", string(left), "new.", "b")
		wantDeeds(t, d, 1, func() { wantSink(t, open(t, d), made(some()), len(b), false) })
		wantFiles(t, d, "lo", "a", "log", string(b), "new.", "b")
		// It is not taken for the log, not even where there is none.
		d = laid(t, plenty, "new", string(left), "old", "c")
		wantDeeds(t, d, 2, func() { wantSink(t, open(t, d), state.New(), 0, false) })
		wantFiles(t, d, "log", "", "old", "c")
	}
}

// P16.1: new is removed ahead of all else, so that its room is there for what
// Compact does.
func TestOpenRemovesNewFirst(t *testing.T) {
	b, left := append(log(some()), "tail"...), make([]byte, 300)
	short := compact(made(some()))
	d := laid(t, len(b)+max(len(left), len(short)), "log", string(b), "new", string(left))
	wantSink(t, open(t, d), made(some()), len(short), false)
	wantKept(t, d, "log", string(short))
}

// wantTail opens a log that has a tail behind n of some groups: it is written
// anew, in just so many deeds as Compact is.
func wantTail(t *testing.T, b []byte, n int) {
	t.Helper()
	has := made(some()[:n])
	short := compact(has)
	d := laid(t, len(b)+len(short), "log", string(b))
	wantDeeds(t, d, 4, func() { wantSink(t, open(t, d), has, len(short), false) })
	wantKept(t, d, "log", string(short))
	wantDeeds(t, d, 0, func() { wantSink(t, open(t, d), has, len(short), false) })
}

// P16.1: a frame that is cut off, at each length, is a tail.
func TestOpenCutOff(t *testing.T) {
	all := some()
	b := log(all)
	for n := range all {
		from, behind := len(log(all[:n])), len(log(all[:n+1]))
		for i := from + 1; i < behind; i++ {
			wantTail(t, b[:i], n)
		}
	}
}

// P16.1: a frame with a changed byte is a tail, and with it all behind it.
func TestOpenChanged(t *testing.T) {
	all := some()
	b := log(all)
	for n := range all {
		from, behind := len(log(all[:n])), len(log(all[:n+1]))
		for i := from; i < behind; i++ {
			for _, x := range []byte{1, 128, 255} {
				changed := bytes.Clone(b)
				changed[i] ^= x
				wantTail(t, changed, n)
			}
		}
	}
}

// wrongBodies is bodies that are no group's that can be put behind three of some
// groups.
func wrongBodies() [][]byte {
	all := bodies(some())
	commit, _ := event.Write(api.Event{Kind: api.Commit, Number: 5}, nil)
	return [][]byte{
		nil, {0}, commit,
		all[0],                                     // its table is there
		all[5],                                     // its table is not there
		all[1][:len(all[1])-1],                     // a group that is cut off
		append(bytes.Clone(all[1]), 0),             // one with a byte more
		made(some()[:3]).Bytes(),                   // the state's own
		lay.Number(nil, math.MaxInt),               // so many writes
		[]byte("\x00\x00\x00\x00\x01\x00"),         // a point's work that is cut off
		[]byte("\x01\x02\x07\x05\x00\x00\x00\x00"), // an event that tells no write
	}
}

// P16.1: a frame whose group can't be put is a tail, and with it all behind it,
// though groups stand there that could be put.
func TestOpenWrongGroup(t *testing.T) {
	all := some()
	ahead, rest := log(all[:3]), frames(bodies(all)[3:]...)
	for _, wrong := range wrongBodies() {
		b := binlog.Frame(ahead, wrong)
		wantTail(t, b, 3)
		wantTail(t, append(b, rest...), 3)
	}
	for i, body := range bodies(all)[1:] {
		if i != 1 {
			wantTail(t, frames(body), 0)
		}
	}
}

// P16.1: bytes that are no frame are a tail: lengths that are none, or greater
// than what is there.
func TestOpenNoFrame(t *testing.T) {
	all := some()
	for _, tail := range []string{
		"\x00", "\x01", "x", "tail", "\x80", "\x80\x00", "\xff\xff\xff\xff\xff\xff\xff\xff\x7f", "\xff\xff\xff\xff\xff\xff\xff\xff\xff\x01", "\xff\xff\xff\xff\xff\xff\xff\xff\xff\xff\xff",
		"\x00\x00\x00\x00\x01", "\xfb\xff\xff\xff\xff\xff\xff\xff\x7f\x00\x00\x00\x00", string(make([]byte, 4000)),
	} {
		for n := range len(all) + 1 {
			wantTail(t, append(log(all[:n]), tail...), n)
		}
	}
}

// P16.1: of all texts of some few bytes as a log there is a sink, which takes what
// it is told.
func TestOpenAllBytes(t *testing.T) {
	few := []byte{0, 1, 5, 128, 255}
	var try func(b []byte, left int)
	try = func(b []byte, left int) {
		d := laid(t, plenty, "log", string(b))
		s := open(t, d)
		if has := s.State(); len(has.Tables()) > 0 || has.Len() > 0 {
			t.Fatalf("%q: %s", b, brief(has))
		}
		want(t, s.Commit(some()[0].writes, at(10)), api.OK)
		if left > 0 {
			for _, c := range few {
				try(append(b[:len(b):len(b)], c), left-1)
			}
		}
	}
	try(nil, 4)
	r := rand.New(rand.NewPCG(16, 1))
	for range 500 {
		b := make([]byte, r.IntN(300))
		for i := range b {
			b[i] = byte(r.Uint32())
		}
		try(b, 0)
	}
}

// P16.1: the disk's errors, with no sink: where the power is gone nothing is done.
func TestOpenDown(t *testing.T) {
	for _, l := range [][]string{nil, {"log", ""}, {"log", string(log(some()))}, {"log", "tail", "new", "x"}, {"new", "x"}} {
		d := laid(t, plenty, l...)
		d.Arm(0)
		want(t, d.Create("x"), api.ErrDown)
		wantNone(t, d, api.ErrDown)
		d.Up(nil)
		wantFiles(t, d, l...)
	}
}

// P16.1: where the power goes at one of its deeds that is told at once, and none
// is done any more.
func TestOpenGoesDown(t *testing.T) {
	b := append(log(some()), "tail"...)
	short := compact(made(some()))
	for _, c := range []struct {
		ahead  []string
		behind [][]string // wherever the power goes
	}{
		{nil, [][]string{{}}},
		{[]string{"new", "x"}, [][]string{{"new", "x"}, {}}},
		{[]string{"log", string(b), "new", "x"}, [][]string{
			{"log", string(b), "new", "x"}, {"log", string(b)}, {"log", string(b), "new", string(short)}, {"log", string(b), "new", string(short)}, {"log", string(b), "new", string(short)},
		}},
	} {
		for n, l := range c.behind {
			d := laid(t, plenty, c.ahead...)
			d.Arm(n)
			wantNone(t, d, api.ErrDown)
			if !d.Down() {
				t.Fatal("the power is there")
			}
			d.Up([]int{0, len(short)})
			wantFiles(t, d, l...)
		}
		d := laid(t, plenty, c.ahead...)
		wantDeeds(t, d, len(c.behind), func() { open(t, d) })
	}
}

// P16.1: want of room for what Compact does is told, with no sink, and all stays
// as it was; with just that room there is a sink.
func TestOpenFull(t *testing.T) {
	all := some()
	for n := range len(all) + 1 {
		b, short := append(log(all[:n]), "tail"...), compact(made(all[:n]))
		for _, room := range []int{len(b), len(b) + 1, len(b) + len(short) - 1} {
			d := laid(t, room, "log", string(b))
			wantNone(t, d, api.ErrFull)
			wantKept(t, d, "log", string(b))
			// new is created and removed, which is two deeds.
			wantDeeds(t, d, 2, func() { wantNone(t, d, api.ErrFull) })
		}
		d := laid(t, len(b)+len(short), "log", string(b))
		wantSink(t, open(t, d), made(all[:n]), len(short), false)
	}
	// Without a tail no room is needed.
	d := laid(t, len(log(all)), "log", string(log(all)))
	wantSink(t, open(t, d), made(all), len(log(all)), false)
}

// P16.1: two sinks on two disks are told nothing of each other, and one that is
// opened behind another one has what that was told.
func TestOpenApart(t *testing.T) {
	all := some()
	d, s := told(t, plenty, all[:4])
	e, other := told(t, plenty, all[:1])
	wantSink(t, s, made(all[:4]), len(log(all[:4])), false)
	wantSink(t, other, made(all[:1]), len(log(all[:1])), false)
	wantSink(t, open(t, d), made(all[:4]), len(log(all[:4])), false)
	wantSink(t, open(t, e), made(all[:1]), len(log(all[:1])), false)
}
