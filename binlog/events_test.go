package binlog_test

import (
	"bytes"
	"math"
	"slices"
	"testing"

	"pantograph/api"
	"pantograph/binlog"
	"pantograph/event"
)

// told is the Start, and the events of stops.
func told(l []stop) []api.Event {
	out := []api.Event{marked(api.Start, 1)}
	for _, s := range l {
		out = append(out, s.e)
	}
	return out
}

// wantEvents checks what the events of bytes are.
func wantEvents(t *testing.T, b []byte, want []api.Event, place int, errno api.Errno) {
	t.Helper()
	was := slices.Clone(b)
	got, at, e := binlog.Events(b)
	if !slices.EqualFunc(got, want, event.Same) || at != place || e != errno {
		t.Errorf("%.60v (%d bytes): %v, %d, %d; not %v, %d, %d", b, len(b), got, at, e, want, place, errno)
	}
	if !bytes.Equal(b, was) {
		t.Errorf("%.60v: what was handed in is changed", was)
	}
}

// P7.3: all events, from the Start on.
func TestEvents(t *testing.T) {
	wantEvents(t, binlog.New(), told(nil), 7, api.ErrNone)
	b, _ := written(t, journey())
	wantEvents(t, b, told(journey()), len(b), api.ErrNone)
	// Room that is not handed in does not matter.
	wantEvents(t, append(slices.Clone(b), plain([]byte{9, 1})...)[:len(b)], told(journey()), len(b), api.ErrNone)
}

// P7.3: a log that is cut off anywhere: within a frame, within a transaction, or
// behind either.
func TestEventsCut(t *testing.T) {
	all := journey()
	b, places := written(t, all)
	for n := range len(b) + 1 {
		if n < places[0] {
			wantEvents(t, b[:n], nil, 0, api.ErrForm)
			continue
		}
		i := 0
		for i < len(all) && places[i+1] <= n {
			i++
		}
		errno := api.ErrNone
		if n != places[i] || i > 0 && all[i-1].open {
			errno = api.ErrEnd
		}
		wantEvents(t, b[:n], told(all[:i]), places[i], errno)
	}
}

// P7.3: up to the first error, whatever is behind it.
func TestEventsErrors(t *testing.T) {
	open := []stop{{marked(api.Begin, 4), nil, true}, {create("t", slim()), list(table("t", slim())), true}}
	shut := append(slices.Clone(open), stop{marked(api.Commit, 4), list(table("t", slim())), false})
	for i, c := range []struct {
		body          []byte
		outside, open api.Errno
	}{
		{nil, api.ErrForm, api.ErrForm}, {[]byte{0}, api.ErrForm, api.ErrForm}, {[]byte{7}, api.ErrForm, api.ErrForm},
		{[]byte{1, 1}, api.ErrState, api.ErrState}, {[]byte{1, 0}, api.ErrState, api.ErrState}, {[]byte{2, 5}, api.ErrEnd, api.ErrState}, {[]byte{9, 5}, api.ErrNone, api.ErrState},
		{[]byte{7, 5}, api.ErrState, api.ErrState}, {[]byte{8, 5}, api.ErrState, api.ErrState}, {[]byte{7, 4}, api.ErrState, api.ErrNone}, {[]byte{8, 4}, api.ErrState, api.ErrNone},
		// Of no such table, and that is not the end of a transaction that is open.
		{[]byte("\x03\x01u\x00\x02"), api.ErrNone, api.ErrNone}, {[]byte("\x06\x02\x01u"), api.ErrState, api.ErrNone},
		{[]byte("\x06\x02\x01t"), api.ErrState, api.ErrEnd}, {[]byte("\x06\x04\x01t\x02id"), api.ErrState, api.ErrSchema}, {[]byte("\x06\x01\x01t\x01\x01\x02id\x02\x00"), api.ErrState, api.ErrExist},
	} {
		for _, inside := range []bool{false, true} {
			ahead, errno := shut, c.outside
			if inside {
				ahead, errno = open, c.open
			}
			head, places := written(t, ahead)
			b, at := binlog.Frame(head, c.body), places[len(places)-1]
			got, place, e := binlog.Events(b)
			if errno != e {
				t.Errorf("%d: %v behind %v: %d, not %d", i, c.body, ahead, e, errno)
			}
			taken := place == len(b) && len(got) == len(ahead)+2
			left := place == at && slices.EqualFunc(got, told(ahead), event.Same)
			if wasTaken := errno == api.ErrEnd || errno == api.ErrNone && place > at; wasTaken && !taken || !wasTaken && !left {
				t.Errorf("%d: %v behind %v: %v, %d, %d", i, c.body, ahead, got, place, e)
			}
			// What is refused is refused whatever is behind it.
			if left {
				wantEvents(t, append(b, plain([]byte{9, 9})...), told(ahead), at, errno)
			}
		}
	}
}

// P7.3: an event of no table at the end of an open transaction is no end of it.
func TestEventsNone(t *testing.T) {
	l := []stop{{marked(api.Begin, 4), nil, true}}
	b, places := written(t, l)
	for _, body := range []string{"\x03\x01u\x00\x02", "\x04\x01u", "\x05\x00", "\x06\x02\x01u", "\x06\x04\x01u\x01x"} {
		wantEvents(t, binlog.Frame(b, []byte(body)), told(l), places[1], api.ErrNone)
	}
	wantEvents(t, b, told(l), places[1], api.ErrEnd)
}

// P7.3: bytes that do not begin with the Start's frame.
func TestEventsStart(t *testing.T) {
	wantEvents(t, nil, nil, 0, api.ErrForm)
	wantEvents(t, []byte{}, nil, 0, api.ErrForm)
	b, _ := written(t, journey())
	for i := range 7 * 8 {
		b[i/8] ^= 1 << (i % 8)
		wantEvents(t, b, nil, 0, api.ErrForm)
		wantEvents(t, b[:7], nil, 0, api.ErrForm)
		b[i/8] ^= 1 << (i % 8)
	}
	for _, body := range [][]byte{nil, {1}, {1, 0}, {1, 2}, {1, 129, 0}, {1, 1, 0}, {1, 129, 1}, {2, 1}, {9, 1}, {10, 1}, {7, 1}} {
		wantEvents(t, append(plain(body), b...), nil, 0, api.ErrForm)
		wantEvents(t, plain(body), nil, 0, api.ErrForm)
	}
	wantEvents(t, b[7:], nil, 0, api.ErrForm)
	wantEvents(t, append([]byte{130, 0}, b[1:]...), nil, 0, api.ErrForm)
	wantEvents(t, append([]byte{0}, b...), nil, 0, api.ErrForm)
	wantEvents(t, bytes.Repeat([]byte{255}, 40), nil, 0, api.ErrForm)
}

// P7.3: what is told is new.
func TestEventsAreNew(t *testing.T) {
	b, _ := written(t, journey())
	one, _, _ := binlog.Events(b)
	two, _, _ := binlog.Events(b)
	for i := range one {
		clear(one[i].Before)
		clear(one[i].After)
		clear(one[i].Change.Schema.Columns)
	}
	clear(one)
	clear(b)
	if !slices.EqualFunc(two, told(journey()), event.Same) {
		t.Error("what is told has memory of other things", two)
	}
	wantEvents(t, b, nil, 0, api.ErrForm)
}

// P7.4: a burst within a body and its check is told, and what is ahead of it.
func TestEventsBurst(t *testing.T) {
	all := journey()
	b, places := written(t, all)
	for i, stop := range all {
		body := len(bodyOf(t, stop.e, before(all, i)))
		from := places[i+1] - 4 - body
		for _, burst := range []uint32{1, 3, 0x80000001, math.MaxUint32, 0xEDB88321, 0xDB710641} {
			for at := from * 8; at+width(burst) <= places[i+1]*8; at++ {
				turn(b, at, burst)
				if l, place, e := binlog.Events(b); e != api.ErrSum || place != places[i] || len(l) != i+1 {
					t.Fatalf("%d, burst %x at %d: %d, %d, %d", i, burst, at, len(l), place, e)
				}
				turn(b, at, burst)
			}
		}
	}
	wantEvents(t, b, told(all), len(b), api.ErrNone)
}

// P7.3: any byte that is changed: up to the frame where it is all is told as it
// was, and what is told behind is what the bytes say.
func TestEventsChanged(t *testing.T) {
	all := journey()
	b, places := written(t, all)
	for at := places[0]; at < len(b); at++ {
		i := 0
		for places[i+1] <= at {
			i++
		}
		was := b[at]
		for c := range 256 {
			b[at] = byte(c)
			if b[at] == was {
				continue
			}
			l, place, e := binlog.Events(b)
			if len(l) < i+1 || !slices.EqualFunc(l[:i+1], told(all[:i]), event.Same) || place < places[i] || e == api.OK {
				t.Fatalf("%d at %d: %d, %d, %d", c, at, len(l), place, e)
			}
		}
		b[at] = was
	}
}

// stand is how things stand in a log of one table t, as letters knows it: 0
// without t, 1 with slim, 2 with wide.
type stand struct {
	open         bool
	number       int
	table, ahead int
}

// letter is a frame's body, and what comes of it: the error, or how things stand.
type letter struct {
	body []byte
	then func(s stand) (stand, api.Errno)
}

// letters is bodies of all kinds; what they come to is worked out case by case.
func letters(t *testing.T) []letter {
	slims, wides := list(table("t", slim())), list(table("t", wide()))
	outside := func(s stand) (stand, api.Errno) {
		if s.open {
			return s, api.ErrState
		}
		return s, api.OK
	}
	begin := func(n int) func(stand) (stand, api.Errno) {
		return func(s stand) (stand, api.Errno) {
			if s.open {
				return s, api.ErrState
			}
			return stand{open: true, number: n, table: s.table, ahead: s.table}, api.OK
		}
	}
	end := func(n int, commit bool) func(stand) (stand, api.Errno) {
		return func(s stand) (stand, api.Errno) {
			if !s.open || s.number != n {
				return s, api.ErrState
			}
			if commit {
				return stand{table: s.table}, api.OK
			}
			return stand{table: s.ahead}, api.OK
		}
	}
	row := func(need int) func(stand) (stand, api.Errno) {
		return func(s stand) (stand, api.Errno) {
			switch {
			case s.table == 0:
				return s, api.ErrNone
			case s.table != need:
				return s, api.ErrForm
			case !s.open:
				return s, api.ErrState
			}
			return s, api.OK
		}
	}
	change := func(to [3]int, errno [3]api.Errno) func(stand) (stand, api.Errno) {
		return func(s stand) (stand, api.Errno) {
			if !s.open {
				return s, api.ErrState
			}
			if e := errno[s.table]; e != api.OK {
				return s, e
			}
			s.table = to[s.table]
			return s, api.OK
		}
	}
	never := func(s stand) (stand, api.Errno) { return s, api.ErrState }
	return []letter{
		{bodyOf(t, marked(api.Start, 1), nil), never},
		{bodyOf(t, marked(api.Low, 1), nil), outside}, {bodyOf(t, marked(api.High, 1), nil), outside},
		{bodyOf(t, marked(api.Begin, 0), nil), begin(0)}, {bodyOf(t, marked(api.Begin, 1), nil), begin(1)},
		{bodyOf(t, marked(api.Commit, 0), nil), end(0, true)}, {bodyOf(t, marked(api.Commit, 1), nil), end(1, true)},
		{bodyOf(t, marked(api.Abort, 0), nil), end(0, false)}, {bodyOf(t, marked(api.Abort, 1), nil), end(1, false)},
		{bodyOf(t, insert("t", whole(1)), slims), row(1)}, {bodyOf(t, update("t", whole(1), api.Value{}), wides), row(2)},
		{bodyOf(t, create("t", slim()), nil), change([3]int{1, 0, 0}, [3]api.Errno{api.OK, api.ErrExist, api.ErrExist})},
		{bodyOf(t, add("t", "x"), nil), change([3]int{0, 2, 0}, [3]api.Errno{api.ErrNone, api.OK, api.ErrExist})},
		{bodyOf(t, drop("t"), nil), change([3]int{0, 0, 0}, [3]api.Errno{api.ErrNone, api.OK, api.OK})},
	}
}

// P7.2, P7.3: all logs of a few events, behind some beginnings.
func TestAllLogs(t *testing.T) {
	l := letters(t)
	stands := [3][]api.Table{nil, list(table("t", slim())), list(table("t", wide()))}
	// check goes through the frames that b has behind its Start, and one that is
	// refused at most.
	check := func(b []byte, many, at int, s stand, errno api.Errno) {
		got, place, e := binlog.Events(b)
		want := errno
		if errno == api.OK {
			want = api.ErrNone
			if s.open {
				want = api.ErrEnd
			}
		}
		if len(got) != many+1 || place != at || e != want {
			t.Fatalf("%v: %v, %d, %d; not %d events, %d, %d", b, got, place, e, many, at, want)
		}
		own := binlog.Scan(b, 7, nil)
		for range many {
			if _, e := own.Next(); e != api.OK {
				t.Fatalf("%v: %d at %d", b, e, own.At())
			}
		}
		if errno == api.OK {
			errno = api.ErrNone
		}
		if _, e := own.Next(); e != errno || own.At() != at || own.Open() != s.open || !slices.EqualFunc(own.Tables(), stands[s.table], sameTable) {
			t.Fatalf("%v: %d at %d, %t, %v; not %d at %d, %v", b, e, own.At(), own.Open(), own.Tables(), errno, at, s)
		}
	}
	var all func(b []byte, many int, s stand, left int)
	all = func(b []byte, many int, s stand, left int) {
		check(b, many, len(b), s, api.OK)
		if left == 0 {
			return
		}
		for _, one := range l {
			more := binlog.Frame(b, one.body)
			then, errno := one.then(s)
			if errno == api.OK {
				all(more, many+1, then, left-1)
			} else {
				check(more, many, len(b), s, errno)
			}
		}
	}
	all(binlog.New(), 0, stand{}, 7)
}

// rewritten is the log of events, made anew frame by frame.
func rewritten(t *testing.T, l []api.Event) []byte {
	t.Helper()
	var b []byte
	var tables, ahead []api.Table
	for _, e := range l {
		b = append(b, plain(bodyOf(t, e, tables))...)
		switch e.Kind {
		case api.Begin:
			ahead = tables
		case api.Abort:
			tables = ahead
		case api.Alter:
			behind, errno := event.Follow(tables, e.Change)
			if errno != api.OK {
				t.Fatalf("%v is told, but can't be followed: %d", e, errno)
			}
			tables = behind
		}
	}
	return b
}

// P7.3, P7.4: any byte of a body that is changed, with a check that is right: what
// is told is just what the bytes up to the place say.
func TestEventsBodyChanged(t *testing.T) {
	all := journey()
	b, places := written(t, all)
	for i, stop := range all {
		body := bodyOf(t, stop.e, before(all, i))
		for at, was := range body {
			for c := range 256 {
				body[at] = byte(c)
				changed := slices.Concat(b[:places[i]], plain(body), b[places[i+1]:])
				l, place, e := binlog.Events(changed)
				if place < places[i] || e == api.OK || !bytes.Equal(rewritten(t, l), changed[:place]) {
					t.Fatalf("%v: %v, %d, %d", changed, l, place, e)
				}
			}
			body[at] = was
		}
	}
}
