package txbuf_test

import (
	"math"
	"math/rand/v2"
	"slices"
	"testing"

	"pantograph/api"
	"pantograph/txbuf"
)

// paper is a buffer on paper: what was put since it was made or cleared, but
// what was refused. All else is looked up there.
type paper struct {
	limit int
	put   []api.Event
}

// since is what was put since the Begin of the transaction that is open, with
// that Begin; none, if none is.
func (p paper) since() []api.Event {
	for i, e := range slices.Backward(p.put) {
		switch e.Kind {
		case api.Begin:
			return p.put[i:]
		case api.Commit, api.Abort:
			return nil
		}
	}
	return nil
}

// held is those that are held.
func (p paper) held() []api.Event {
	var l []api.Event
	for _, e := range p.since() {
		if slices.Contains(kinds(), e.Kind) {
			l = append(l, e)
		}
	}
	return l
}

func (p paper) things() things {
	if len(p.since()) == 0 {
		return nobody
	}
	return things{len(p.held()), true, p.since()[0].Number}
}

// told is what Put of e tells.
func (p paper) told(e api.Event) told {
	open := len(p.since()) > 0
	switch {
	case e.Kind == api.Begin && open:
		return told{errno: api.ErrState}
	case slices.Contains(kinds(), e.Kind) && !open:
		return told{errno: api.ErrState}
	case slices.Contains(kinds(), e.Kind) && len(p.held())+1 > p.limit:
		return told{errno: api.ErrLimit}
	}
	if e.Kind == api.Commit || e.Kind == api.Abort {
		if !open || p.since()[0].Number != e.Number {
			return told{errno: api.ErrState}
		}
	}
	if e.Kind == api.Commit {
		return told{events: p.held(), stands: true}
	}
	return told{}
}

// behind is paper behind Put of e.
func (p paper) behind(e api.Event) paper {
	if p.told(e).errno == api.OK {
		p.put = append(p.put[:len(p.put):len(p.put)], e)
	}
	return p
}

// wantRow puts events one by one, and checks each against paper; Kind cleared
// is no event, but a Clear.
func wantRow(t *testing.T, limit int, l []api.Event) {
	t.Helper()
	b, p := txbuf.New(limit), paper{limit: max(limit, 1)}
	for i, e := range l {
		if e.Kind == cleared {
			b.Clear()
			p.put = nil
		} else {
			wantPut(t, b, e, p.told(e))
			p = p.behind(e)
		}
		if got := (things{b.Len(), b.Open(), b.Number()}); got != p.things() || got.held > p.limit {
			t.Fatalf("behind %v, of limit %d: %v, not %v", l[:i+1], limit, got, p.things())
		}
	}
}

// cleared stands in a row for a Clear.
const cleared = -1000

// P12.1 to P12.3: all rows of up to six calls out of eight, of the limits 1 and 2.
func TestAllRows(t *testing.T) {
	calls := []api.Event{
		ending(api.Begin, 0), ending(api.Begin, 1), row(api.Insert, 1), row(api.Delete, 2),
		ending(api.Commit, 0), ending(api.Commit, 1), ending(api.Abort, 0), {Kind: cleared},
	}
	const most = 6
	l := make([]api.Event, 0, most)
	var follow func()
	follow = func() {
		// A row's beginnings are gone through with it.
		if len(l) == most {
			wantRow(t, 1, l)
			wantRow(t, 2, l)
			return
		}
		for _, e := range calls {
			l = append(l, e)
			follow()
			l = l[:len(l)-1]
		}
	}
	follow()
}

// P12.1 to P12.3: seeded long rows, of all kinds of events, and of more numbers.
func TestLongRows(t *testing.T) {
	r := rand.New(rand.NewPCG(12, 3))
	numbers := []int{0, 1, 2, 300, math.MaxInt}
	for range 300 {
		var l []api.Event
		number := 0
		for range 200 {
			switch k := r.IntN(40); {
			case k < 5:
				number = numbers[r.IntN(len(numbers))]
				l = append(l, ending(api.Begin, number))
			case k < 32:
				l = append(l, row(kinds()[k%4], r.IntN(1000)))
			case k < 36:
				l = append(l, ending([]int{api.Commit, api.Abort}[r.IntN(2)], number))
			case k < 38:
				l = append(l, ending([]int{api.Commit, api.Abort}[r.IntN(2)], numbers[r.IntN(len(numbers))]))
			case k < 39:
				l = append(l, ending([]int{api.Start, api.Low, api.High, 0, 11}[r.IntN(5)], r.IntN(3)))
			case r.IntN(4) == 0:
				l = append(l, api.Event{Kind: cleared})
			}
		}
		wantRow(t, []int{-1, 1, 2, 5, 20, math.MaxInt}[r.IntN(6)], l)
	}
}
