package txbuf_test

import (
	"fmt"
	"math"
	"testing"

	"pantograph/api"
	"pantograph/txbuf"
)

// P12.1: New is without a transaction, whatever limit it is handed.
func TestNew(t *testing.T) {
	for _, limit := range []int{math.MinInt, -1, 0, 1, 2, 1000, math.MaxInt} {
		b := txbuf.New(limit)
		wantThings(t, fmt.Sprint("New of ", limit), b, nobody)
		wantPut(t, b, ending(api.Commit, 0), told{errno: api.ErrState})
		wantPut(t, b, row(api.Insert, 1), told{errno: api.ErrState})
		wantThings(t, fmt.Sprint("New of ", limit), b, nobody)
	}
}

// P12.1: just as many are held as the limit; a limit below 1 is 1.
func TestLimit(t *testing.T) {
	for limit, most := range map[int]int{math.MinInt: 1, -1: 1, 0: 1, 1: 1, 2: 2, 3: 3, 8: 8, 9: 9, 1000: 1000} {
		b := txbuf.New(limit)
		for _, end := range []int{api.Commit, api.Abort, api.Commit} {
			wantPut(t, b, ending(api.Begin, 7), told{})
			var held []api.Event
			for i := range most {
				e := row(kinds()[i%4], i)
				wantPut(t, b, e, told{})
				held = append(held, e)
				wantThings(t, "Put", b, things{len(held), true, 7})
			}
			for _, kind := range kinds() {
				wantPut(t, b, row(kind, most), told{errno: api.ErrLimit})
				wantThings(t, "Put of one more than the limit", b, things{most, true, 7})
			}
			wantEnd(t, b, end, 7, held)
		}
	}
}

// P12.1: the greatest limit is never met, and takes no room ahead of need.
func TestGreatLimit(t *testing.T) {
	b := txbuf.New(math.MaxInt)
	wantPut(t, b, ending(api.Begin, math.MaxInt), told{})
	var held []api.Event
	for i := range 5000 {
		held = append(held, row(api.Insert, i))
		wantPut(t, b, held[i], told{})
	}
	wantThings(t, "Put", b, things{5000, true, math.MaxInt})
	wantEnd(t, b, api.Commit, math.MaxInt, held)
}

// The chapter's example.
func TestExample(t *testing.T) {
	b := txbuf.New(3)
	gone := row(api.Delete, 5)
	wantPut(t, b, ending(api.Begin, 1), told{})
	wantPut(t, b, gone, told{})
	wantPut(t, b, ending(api.Commit, 1), told{events: []api.Event{gone}, stands: true})
	wantThings(t, "Commit", b, nobody)
}

// P12.1: what each kind of events does, outside of a transaction, within an
// empty one, and within one that is full.
func TestKinds(t *testing.T) {
	state, limit := api.ErrState, api.ErrLimit
	for _, c := range []struct {
		kind                   int
		outside, within, fully api.Errno
	}{
		{api.Begin, api.OK, state, state},
		{api.Insert, state, api.OK, limit}, {api.Update, state, api.OK, limit}, {api.Delete, state, api.OK, limit}, {api.Alter, state, api.OK, limit},
		{api.Commit, state, api.OK, api.OK}, {api.Abort, state, api.OK, api.OK},
		{api.Start, api.OK, api.OK, api.OK}, {api.Low, api.OK, api.OK, api.OK}, {api.High, api.OK, api.OK, api.OK},
		{0, api.OK, api.OK, api.OK}, {-1, api.OK, api.OK, api.OK}, {api.High + 1, api.OK, api.OK, api.OK}, {256 + api.Begin, api.OK, api.OK, api.OK},
		{math.MinInt, api.OK, api.OK, api.OK}, {math.MaxInt, api.OK, api.OK, api.OK}, {1<<32 + api.Commit, api.OK, api.OK, api.OK},
	} {
		e := api.Event{Kind: c.kind, Number: 3}
		outside, within, fully := txbuf.New(1), txbuf.New(1), txbuf.New(1)
		held := row(api.Insert, 1)
		wantPut(t, within, ending(api.Begin, 3), told{})
		wantPut(t, fully, ending(api.Begin, 3), told{})
		wantPut(t, fully, held, told{})

		wantPut(t, outside, e, told{errno: c.outside})
		wantPut(t, within, e, told{errno: c.within, stands: c.kind == api.Commit})
		if c.kind == api.Commit {
			wantPut(t, fully, e, told{events: []api.Event{held}, stands: true})
		} else {
			wantPut(t, fully, e, told{errno: c.fully})
		}

		ends := c.kind == api.Commit || c.kind == api.Abort
		wantThings(t, "outside", outside, behind(c.kind == api.Begin, 0))
		holds := 0
		if c.kind >= api.Insert && c.kind <= api.Alter {
			holds = 1
		}
		wantThings(t, "within", within, behind(!ends, holds))
		wantThings(t, "in a full one", fully, behind(!ends, 1))
	}
}

// behind is what a buffer tells within transaction 3, or where none is open.
func behind(open bool, held int) things {
	if !open {
		return nobody
	}
	return things{held, true, 3}
}

// P12.1: Commit and Abort of any Number but that of the Begin are refused, and
// leave all as it was.
func TestNumbers(t *testing.T) {
	numbers := []int{0, 1, 2, 255, 256, 1<<31 - 1, 1 << 31, 1 << 32, 1<<32 + 1, math.MaxInt - 1, math.MaxInt}
	b := txbuf.New(4)
	for _, n := range numbers {
		for _, end := range []int{api.Commit, api.Abort} {
			held := []api.Event{row(api.Update, n), row(api.Delete, 2)}
			wantPut(t, b, ending(api.Begin, n), told{})
			wantPut(t, b, held[0], told{})
			for _, other := range numbers {
				if other != n {
					wantPut(t, b, ending(api.Commit, other), told{errno: api.ErrState})
					wantPut(t, b, ending(api.Abort, other), told{errno: api.ErrState})
					wantThings(t, "an end of another Number", b, things{1, true, n})
				}
				wantPut(t, b, ending(api.Begin, other), told{errno: api.ErrState})
				wantThings(t, "a Begin within", b, things{1, true, n})
			}
			wantPut(t, b, held[1], told{})
			wantEnd(t, b, end, n, held)
		}
	}
}

// P12.1: numbers need not rise, and one may come again; the numbers of other
// events are not asked.
func TestNumbersAnyhow(t *testing.T) {
	b := txbuf.New(2)
	for _, n := range []int{9, 3, 3, 0, 9, math.MaxInt, 0} {
		numbered := row(api.Insert, n)
		numbered.Number = 77
		wantPut(t, b, ending(api.Begin, n), told{})
		wantPut(t, b, numbered, told{})
		wantPut(t, b, ending(api.Low, 78), told{})
		wantPut(t, b, ending(api.High, n), told{})
		wantPut(t, b, ending(api.Start, 0), told{})
		wantEnd(t, b, api.Commit, n, []api.Event{numbered})
	}
}

// P12.1: an empty transaction stands, too.
func TestEmpty(t *testing.T) {
	b := txbuf.New(1)
	wantPut(t, b, ending(api.Begin, 0), told{})
	wantThings(t, "Begin", b, things{0, true, 0})
	wantEnd(t, b, api.Commit, 0, nil)
	wantPut(t, b, ending(api.Begin, 0), told{})
	wantEnd(t, b, api.Abort, 0, nil)
}

// P12.1: what is held is told in order, each with all its fields, be they as an
// event's may be or not.
func TestTellsAll(t *testing.T) {
	all := full()
	b := txbuf.New(len(all))
	wantPut(t, b, ending(api.Begin, 12), told{})
	for _, e := range all {
		wantPut(t, b, e, told{})
	}
	wantEnd(t, b, api.Commit, 12, all)
}

// P12.1, P12.3: what an aborted transaction held, and what came with an error,
// is told by none behind it.
func TestAbort(t *testing.T) {
	b := txbuf.New(2)
	first, second := row(api.Insert, 1), row(api.Insert, 2)
	wantPut(t, b, ending(api.Begin, 1), told{})
	wantPut(t, b, first, told{})
	wantEnd(t, b, api.Abort, 1, nil)
	wantPut(t, b, row(api.Delete, 3), told{errno: api.ErrState})
	wantPut(t, b, ending(api.Begin, 2), told{})
	wantPut(t, b, second, told{})
	wantPut(t, b, first, told{})
	wantPut(t, b, row(api.Update, 4), told{errno: api.ErrLimit})
	wantPut(t, b, ending(api.Begin, 3), told{errno: api.ErrState})
	wantEnd(t, b, api.Commit, 2, []api.Event{second, first})
	wantPut(t, b, ending(api.Begin, 4), told{})
	wantEnd(t, b, api.Commit, 4, nil)
}

// P12.2: Clear forgets the transaction, but not the limit.
func TestClear(t *testing.T) {
	for _, limit := range []int{-3, 1, 3} {
		b := txbuf.New(limit)
		b.Clear()
		wantThings(t, "Clear of a new one", b, nobody)
		for range 3 {
			wantPut(t, b, ending(api.Begin, 6), told{})
			for i := range max(limit, 1) {
				wantPut(t, b, row(api.Insert, i), told{})
			}
			wantPut(t, b, row(api.Insert, 9), told{errno: api.ErrLimit})
			b.Clear()
			wantThings(t, "Clear", b, nobody)
			wantPut(t, b, ending(api.Commit, 6), told{errno: api.ErrState})
			wantPut(t, b, ending(api.Abort, 6), told{errno: api.ErrState})
			wantPut(t, b, row(api.Alter, 1), told{errno: api.ErrState})
			b.Clear()
			wantThings(t, "Clear once more", b, nobody)
		}
		wantPut(t, b, ending(api.Begin, 5), told{})
		wantEnd(t, b, api.Commit, 5, nil)
	}
}

// R5: buffers know nothing of each other.
func TestTwo(t *testing.T) {
	a, b := txbuf.New(2), txbuf.New(1)
	wantPut(t, a, ending(api.Begin, 1), told{})
	wantThings(t, "the other one", b, nobody)
	wantPut(t, b, ending(api.Begin, 2), told{})
	wantPut(t, a, row(api.Insert, 1), told{})
	wantPut(t, b, row(api.Insert, 2), told{})
	wantPut(t, b, row(api.Insert, 3), told{errno: api.ErrLimit})
	wantPut(t, a, row(api.Insert, 3), told{})
	wantEnd(t, b, api.Commit, 2, []api.Event{row(api.Insert, 2)})
	wantThings(t, "the other one", a, things{2, true, 1})
	b.Clear()
	wantEnd(t, a, api.Commit, 1, []api.Event{row(api.Insert, 1), row(api.Insert, 3)})
}
