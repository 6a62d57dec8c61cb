package mark_test

import (
	"fmt"
	"math/rand/v2"
	"slices"
	"testing"

	"pantograph/api"
	"pantograph/mark"
	"pantograph/schema"
)

// call is a call of a marker: Low, Select, High, Clear, or Meet of an event of a
// kind and a number.
type call struct {
	what   string
	number int
	table  string
	kind   int
}

func lowOf(number int, table string) call { return call{what: "Low", number: number, table: table} }
func meet(kind, number int) call          { return call{what: "Meet", number: number, kind: kind} }

// paper is a marker on paper: the calls that did anything, one behind the other.
// All else is looked up there.
type paper []call

// since is those of the chunk that has begun, with its Low; none, if it is idle.
func (p paper) since() []call {
	for i, c := range slices.Backward(p) {
		switch {
		case c.what == "Low":
			return p[i:]
		case c.what == "Clear" || c.kind == api.High:
			return nil
		}
	}
	return nil
}

// had tells whether a number is one that it had, or not above one.
func (p paper) had(number int) bool {
	return slices.ContainsFunc(p, func(c call) bool { return c.what == "Low" && number <= c.number })
}

func (p paper) things() things {
	l := p.since()
	if len(l) == 0 {
		return nobody
	}
	told := things{number: l[0].number, table: l[0].table}
	for _, c := range l {
		if c.what == "Meet" {
			told.inside = true
		} else {
			told.phase++
		}
	}
	return told
}

// told is what a call tells: an error's number, or (Meet) what is to be done.
func (p paper) told(c call) int {
	now := p.things()
	switch c.what {
	case "Low":
		switch {
		case now.phase != 0:
			return int(api.ErrState)
		case c.number < 0 || !schema.Name(c.table) || p.had(c.number):
			return int(api.ErrArg)
		}
	case "Select":
		if now.phase != 1 {
			return int(api.ErrState)
		}
	case "High":
		if now.phase != 2 {
			return int(api.ErrState)
		}
	case "Meet":
		switch {
		case c.is(api.Low, now) && now.phase < 2:
			return mark.Wait
		case c.is(api.High, now) && now.phase == 3:
			return mark.Shut
		}
	}
	return 0
}

// is tells whether a Meet's event is a mark of the chunk that has begun.
func (c call) is(kind int, now things) bool {
	return now.phase != 0 && c.kind == kind && c.number == now.number
}

// take puts a call on paper, if it did anything.
func (p *paper) take(c call) {
	now, told := p.things(), p.told(c)
	does := told == 0
	if c.what == "Meet" {
		does = told == mark.Shut || c.is(api.Low, now) && now.phase >= 2
	}
	if does {
		*p = append(*p, c)
	}
}

// does is what a call of a marker told.
func (c call) does(m *mark.Marker) int {
	switch c.what {
	case "Low":
		return int(m.Low(c.number, c.table))
	case "Select":
		return int(m.Select())
	case "High":
		return int(m.High())
	case "Meet":
		return m.Meet(api.Event{Kind: c.kind, Number: c.number})
	}
	m.Clear()
	return 0
}

// wantRow does calls one by one, and checks each against paper.
func wantRow(t *testing.T, l []call) {
	m, p := mark.New(), make(paper, 0, 16)
	for i, c := range l {
		if got, want := c.does(m), p.told(c); got != want {
			t.Fatalf("%v: %d, not %d", l[:i+1], got, want)
		}
		p.take(c)
		if got := (things{m.Phase(), m.Number(), m.Table(), m.Inside()}); got != p.things() {
			t.Fatalf("behind %v: %v, not %v", l[:i+1], got, p.things())
		}
	}
}

// P17.1, P17.2: all rows of up to five calls out of nine, from New on, and behind
// a whole chunk, and one that was cleared.
func TestAllRows(t *testing.T) {
	calls := []call{
		lowOf(0, "t"), lowOf(1, "u"), {what: "Select"}, {what: "High"}, {what: "Clear"},
		meet(api.Low, 0), meet(api.High, 0), meet(api.Low, 1), meet(api.High, 1),
	}
	begun := []call{lowOf(0, "t"), {what: "Select"}, meet(api.Low, 0), {what: "High"}}
	follow(t, nil, calls, 5)
	for _, end := range []call{meet(api.High, 0), {what: "Clear"}} {
		follow(t, slices.Concat(begun, []call{end}), calls, 5)
	}
}

// follow tries each row of so many more calls behind l; a row's beginnings are
// gone through with it.
func follow(t *testing.T, l, calls []call, more int) {
	if more == 0 {
		wantRow(t, l)
		return
	}
	for _, c := range calls {
		follow(t, append(l, c), calls, more-1)
	}
}

// P17.1, P17.2: seeded long rows, of all kinds of events, right and wrong tables
// and numbers.
func TestLongRows(t *testing.T) {
	r := rand.New(rand.NewPCG(17, 2))
	tables := []string{"t", "u", "people", "t", "", "T"}
	for range 400 {
		var l []call
		number := 0
		for range 120 {
			near := number + r.IntN(4) - 2
			switch k := r.IntN(30); {
			case k < 6:
				if r.IntN(3) > 0 {
					number += r.IntN(3)
					near = number
				}
				l = append(l, lowOf(near, tables[r.IntN(len(tables))]))
			case k < 12:
				l = append(l, call{what: "Select"})
			case k < 18:
				l = append(l, call{what: "High"})
			case k < 27:
				l = append(l, meet([]int{api.Low, api.High}[r.IntN(2)], []int{number, near}[r.IntN(2)]))
			case k < 29:
				l = append(l, meet(r.IntN(12), near))
			case r.IntN(3) == 0:
				l = append(l, call{what: "Clear"})
			}
		}
		wantRow(t, l)
	}
}

// P17.3: a log into which marks are put, and which is read, by turns by chance:
// between two Shuts each chunk goes through all three phases, and its Low is met
// behind its rows were selected, ahead of its High.
func TestGoesThroughAllPhases(t *testing.T) {
	for seed := range uint64(200) {
		r := rand.New(rand.NewPCG(17, seed))
		m := mark.New()
		log, read := []api.Event{{Kind: api.Start}}, 0
		var seen []string
		number, shut := 0, 0
		for range 400 {
			switch k := r.IntN(10); {
			case k < 3:
				seen = append(seen, goOn(t, m, &log, &number)...)
			case k < 5:
				log = append(log, api.Event{Kind: api.Begin, Number: number}, api.Event{Kind: api.Commit, Number: number})
			case read < len(log):
				e := log[read]
				was := things{m.Phase(), m.Number(), m.Table(), m.Inside()}
				told := m.Meet(e)
				if told != mark.Wait {
					read++
				}
				seen = append(seen, met(t, e, was, told)...)
				if told == mark.Shut {
					shut++
					wantChunk(t, seen)
					seen = nil
				}
			}
		}
		if shut < 5 {
			t.Errorf("%d chunks were shut: too few to tell", shut)
		}
	}
}

// goOn leads the marker on, and tells the phase to which it came.
func goOn(t *testing.T, m *mark.Marker, log *[]api.Event, number *int) []string {
	t.Helper()
	was := m.Phase()
	errno := api.OK
	switch was {
	case 0:
		*number = len(*log)
		*log = append(*log, lowMark(*number))
		errno = m.Low(*number, "t")
	case 1:
		errno = m.Select()
	case 2:
		*log = append(*log, highMark(*number))
		errno = m.High()
	case 3:
		return nil
	}
	wantErrno(t, "a step", errno, api.OK)
	return []string{fmt.Sprint("phase ", m.Phase())}
}

// met tells which of the chunk's marks the marker met, and is done with.
func met(t *testing.T, e api.Event, was things, told int) []string {
	t.Helper()
	switch {
	case e.Kind == api.Low && told == mark.Pass && e.Number == was.number:
		return []string{"low"}
	case told == mark.Wait && (e.Kind != api.Low || e.Number != was.number || was.phase != 1):
		t.Fatalf("%v waits at %v", e, was)
	case told == mark.Shut && (e.Kind != api.High || e.Number != was.number || was.phase != 3 || !was.inside):
		t.Fatalf("%v shuts at %v", e, was)
	}
	return nil
}

// wantChunk checks what there was of a chunk, from the Shut ahead of it on.
func wantChunk(t *testing.T, seen []string) {
	t.Helper()
	early := []string{"phase 1", "phase 2", "low", "phase 3"}
	late := []string{"phase 1", "phase 2", "phase 3", "low"}
	if !slices.Equal(seen, early) && !slices.Equal(seen, late) {
		t.Fatal("a chunk was shut behind", seen)
	}
}
