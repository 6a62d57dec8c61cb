package mark_test

import (
	"fmt"
	"math"
	"strings"
	"testing"

	"pantograph/api"
	"pantograph/mark"
)

// P17.2: Pass, Wait and Shut are 0, 1 and 2.
func TestNumbersOfWhatIsDone(t *testing.T) {
	if got := [...]int{mark.Pass, mark.Wait, mark.Shut}; got != [...]int{0, 1, 2} {
		t.Error(got)
	}
}

// P17.1: New is idle: no step but Low leads on from there, and no mark is its own.
func TestNew(t *testing.T) {
	m := mark.New()
	wantThings(t, "New", m, nobody)
	wantErrno(t, "Select", m.Select(), api.ErrState)
	wantErrno(t, "High", m.High(), api.ErrState)
	for _, n := range []int{-1, 0, 1, math.MaxInt} {
		wantMeet(t, m, lowMark(n), mark.Pass)
		wantMeet(t, m, highMark(n), mark.Pass)
	}
	wantThings(t, "all that is refused", m, nobody)
	wantErrno(t, "Low", m.Low(0, "t"), api.OK)
	wantThings(t, "Low", m, things{1, 0, "t", false})
}

// The chapter's example.
func TestExample(t *testing.T) {
	m := mark.New()
	wantErrno(t, "Low", m.Low(5, "t"), api.OK)
	wantMeet(t, m, lowMark(5), mark.Wait)
	wantErrno(t, "Select", m.Select(), api.OK)
	wantMeet(t, m, lowMark(5), mark.Pass)
	wantThings(t, "Meet", m, things{2, 5, "t", true})
}

// P17.1, P17.2: a whole chunk, and another one behind it.
func TestWholeChunks(t *testing.T) {
	m := mark.New()
	for _, c := range []struct {
		number int
		table  string
	}{{0, "t"}, {1, "t"}, {5, "people"}, {300, "t"}, {math.MaxInt, "z_9"}} {
		wantErrno(t, "Low", m.Low(c.number, c.table), api.OK)
		wantThings(t, "Low", m, things{1, c.number, c.table, false})
		wantErrno(t, "Select", m.Select(), api.OK)
		wantThings(t, "Select", m, things{2, c.number, c.table, false})
		wantMeet(t, m, lowMark(c.number), mark.Pass)
		wantThings(t, "the Low", m, things{2, c.number, c.table, true})
		wantErrno(t, "High", m.High(), api.OK)
		wantThings(t, "High", m, things{3, c.number, c.table, true})
		wantMeet(t, m, highMark(c.number), mark.Shut)
		wantThings(t, "the High", m, nobody)
		wantMeet(t, m, highMark(c.number), mark.Pass)
		wantMeet(t, m, lowMark(c.number), mark.Pass)
		wantThings(t, "its marks once more", m, nobody)
	}
}

// P17.1: which step leads on from which place; one that does not leaves all as
// it was.
func TestSteps(t *testing.T) {
	for _, p := range places() {
		for next, step := range map[int]func(*mark.Marker) api.Errno{
			1: func(m *mark.Marker) api.Errno { return m.Low(8, "u") },
			2: (*mark.Marker).Select,
			3: (*mark.Marker).High,
		} {
			m := mark.New()
			at(t, m, p.phase, 7, p.inside)
			call := fmt.Sprint("the step to ", next, " at ", p)
			was := things{m.Phase(), m.Number(), m.Table(), m.Inside()}
			switch {
			case next != p.phase+1:
				wantErrno(t, call, step(m), api.ErrState)
				wantThings(t, call, m, was)
			case next == 1:
				wantErrno(t, call, step(m), api.OK)
				wantThings(t, call, m, things{1, 8, "u", false})
			default:
				wantErrno(t, call, step(m), api.OK)
				wantThings(t, call, m, things{next, 7, "t", p.inside})
			}
		}
	}
}

// P17.1: Low of a table that is no name is refused, and its number is none that
// the marker had.
func TestNames(t *testing.T) {
	long := strings.Repeat("a", api.MaxName)
	for _, table := range []string{"", "T", "9t", "_t", "t-", "t ", " t", "tä", "t\x00", "t\xff", "tT", long + "a", strings.Repeat("t", 5000)} {
		m := mark.New()
		for range 2 {
			wantErrno(t, "Low of "+table, m.Low(3, table), api.ErrArg)
			wantErrno(t, "Low of "+table, m.Low(math.MaxInt, table), api.ErrArg)
			wantThings(t, "Low of "+table, m, nobody)
		}
		wantErrno(t, "Low of t", m.Low(0, "t"), api.OK)
	}
	for _, table := range []string{"t", "a", "z", "t9", "t_", "people", long} {
		m := mark.New()
		wantErrno(t, "Low of "+table, m.Low(3, table), api.OK)
		wantThings(t, "Low of "+table, m, things{1, 3, table, false})
	}
}

// P17.1: a number is from 0 on, and above each one that the marker had, however
// its chunk ended, and whatever the table was.
func TestNumbersRise(t *testing.T) {
	numbers := []int{0, 1, 2, 255, 256, 1<<31 - 1, 1 << 31, 1 << 32, 1<<32 + 1, math.MaxInt - 1, math.MaxInt}
	for _, ends := range []bool{true, false} {
		m := mark.New()
		for i, n := range numbers {
			at(t, m, 3, n, i&1 == 0)
			if ends {
				wantMeet(t, m, highMark(n), mark.Shut)
			} else {
				m.Clear()
			}
			refused := append([]int{math.MinInt, math.MinInt + 1, -1 << 32, -2, -1, n - 1}, numbers[:i+1]...)
			for _, other := range refused {
				for _, table := range []string{"t", "u"} {
					wantErrno(t, fmt.Sprint("Low of ", other, " behind ", n), m.Low(other, table), api.ErrArg)
					wantThings(t, "Low", m, nobody)
				}
			}
		}
	}
}

// P17.1: a new marker had no number; one below 0 is refused there, too.
func TestBelowZero(t *testing.T) {
	m := mark.New()
	for _, n := range []int{-1, -2, -1 << 32, math.MinInt} {
		wantErrno(t, fmt.Sprint("Low of ", n), m.Low(n, "t"), api.ErrArg)
		wantThings(t, "Low", m, nobody)
	}
	wantErrno(t, "Low of 0", m.Low(0, "t"), api.OK)
}

// P17.1: all numbers that it had count, not the last one's alone.
func TestAllNumbersCount(t *testing.T) {
	m := mark.New()
	for _, n := range []int{4, 9} {
		wantErrno(t, "Low", m.Low(n, "t"), api.OK)
		m.Clear()
	}
	for n := range 10 {
		wantErrno(t, fmt.Sprint("Low of ", n), m.Low(n, "t"), api.ErrArg)
	}
	wantErrno(t, "Low of 10", m.Low(10, "t"), api.OK)
}

// P17.1, R2: where a chunk has begun Low tells ErrState, whatever it is handed;
// a number that was refused so is none that the marker had.
func TestStateAheadOfArg(t *testing.T) {
	for _, p := range places()[1:] {
		m := mark.New()
		at(t, m, p.phase, 7, p.inside)
		for _, n := range []int{math.MinInt, -1, 0, 6, 7, 8, 100, math.MaxInt} {
			for _, table := range []string{"t", "u", "", "T"} {
				wantErrno(t, "Low", m.Low(n, table), api.ErrState)
				wantThings(t, "Low", m, things{p.phase, 7, "t", p.inside})
			}
		}
		m.Clear()
		wantErrno(t, "Low of 7", m.Low(7, "t"), api.ErrArg)
		wantErrno(t, "Low of 8", m.Low(8, "u"), api.OK)
		wantThings(t, "Low of 8", m, things{1, 8, "u", false})
	}
}

// P17.2: what is to be done with an event of its number, at each place and of
// each kind, and where the marker stands then.
func TestMeetsItsOwn(t *testing.T) {
	kinds := []int{
		0, -1, api.Start, api.Begin, api.Insert, api.Update, api.Delete, api.Alter, api.Commit, api.Abort, api.Low, api.High,
		api.High + 1, 256 + api.Low, 1<<32 + api.High, math.MinInt, math.MaxInt,
	}
	for _, p := range places()[1:] {
		for _, kind := range kinds {
			m := mark.New()
			at(t, m, p.phase, 7, p.inside)
			want, behind := mark.Pass, things{p.phase, 7, "t", p.inside}
			switch {
			case kind == api.Low && p.phase == 1:
				want = mark.Wait
			case kind == api.Low:
				behind.inside = true
			case kind == api.High && p.phase == 3:
				want, behind = mark.Shut, nobody
			}
			wantMeet(t, m, api.Event{Kind: kind, Number: 7}, want)
			wantThings(t, fmt.Sprint("an event of kind ", kind, " at ", p), m, behind)
		}
	}
}

// P17.2: an event of another number is passed, wherever the marker stands; so is
// each one where it is idle, be it of a number that it had.
func TestMeetsOthers(t *testing.T) {
	numbers := []int{math.MinInt, -8, -1, 0, 1, 6, 8, 7 + 1<<8, 7 + 1<<32, 1 << 62, math.MaxInt}
	for _, p := range places() {
		m := mark.New()
		at(t, m, 2, 1, true) // a chunk that was there ahead of it
		m.Clear()
		at(t, m, p.phase, 7, p.inside)
		was := things{m.Phase(), m.Number(), m.Table(), m.Inside()}
		all := numbers
		if p.phase == 0 {
			all = append(all[:len(all):len(all)], 7)
		}
		for _, n := range all {
			for kind := range api.High + 2 {
				wantMeet(t, m, api.Event{Kind: kind, Number: n}, mark.Pass)
				wantThings(t, fmt.Sprint("an event of ", n), m, was)
			}
		}
	}
}

// P17.2: a Low that must wait is one that was not met: it waits each time, and
// the marker is inside only from the Low behind Select on.
func TestWaits(t *testing.T) {
	m := mark.New()
	at(t, m, 1, 4, false)
	for range 3 {
		wantMeet(t, m, lowMark(4), mark.Wait)
		wantMeet(t, m, highMark(4), mark.Pass)
		wantThings(t, "a Low that waits", m, things{1, 4, "t", false})
	}
	wantErrno(t, "Select", m.Select(), api.OK)
	wantThings(t, "Select", m, things{2, 4, "t", false})
	for range 2 {
		wantMeet(t, m, lowMark(4), mark.Pass)
		wantThings(t, "the Low", m, things{2, 4, "t", true})
	}
}

// P17.2: the Low may be met when the high mark is in the log, too, as a log is
// read later than it is written.
func TestReadsLate(t *testing.T) {
	m := mark.New()
	at(t, m, 3, 4, false)
	wantMeet(t, m, lowMark(4), mark.Pass)
	wantThings(t, "the Low", m, things{3, 4, "t", true})
	wantMeet(t, m, highMark(4), mark.Shut)
	wantThings(t, "the High", m, nobody)
}

// P17.2: of a High of its number, if its high mark is there, Shut is told, be the
// marker inside or not.
func TestShutsOutside(t *testing.T) {
	m := mark.New()
	at(t, m, 3, 4, false)
	wantMeet(t, m, highMark(4), mark.Shut)
	wantThings(t, "the High", m, nobody)
}

// P17.2: an event's kind and number alone are asked, whatever else it tells.
func TestMeetsByNumberAndKind(t *testing.T) {
	full := func(kind, number int) api.Event {
		row := api.Row{{Kind: api.Int, Number: 7}}
		return api.Event{Kind: kind, Number: number, Table: "u", Before: row, After: row, Change: api.Change{Kind: api.Drop, Table: "t"}}
	}
	m := mark.New()
	at(t, m, 1, 7, false)
	wantMeet(t, m, full(api.Low, 7), mark.Wait)
	wantErrno(t, "Select", m.Select(), api.OK)
	wantMeet(t, m, full(api.Alter, 7), mark.Pass)
	wantMeet(t, m, full(api.Low, 7), mark.Pass)
	wantThings(t, "the Low", m, things{2, 7, "t", true})
	wantErrno(t, "High", m.High(), api.OK)
	wantMeet(t, m, full(api.High, 8), mark.Pass)
	wantMeet(t, m, full(api.High, 7), mark.Shut)
}

// P17.2: Clear makes it idle from each place; the numbers that it had it knows,
// and nothing else: the next chunk begins anew.
func TestClear(t *testing.T) {
	for _, p := range places() {
		m := mark.New()
		at(t, m, p.phase, 7, p.inside)
		for range 2 {
			m.Clear()
			wantThings(t, fmt.Sprint("Clear at ", p), m, nobody)
		}
		wantErrno(t, "Select", m.Select(), api.ErrState)
		wantErrno(t, "High", m.High(), api.ErrState)
		wantMeet(t, m, lowMark(7), mark.Pass)
		wantMeet(t, m, highMark(7), mark.Pass)
		wantThings(t, "what is met", m, nobody)
		if p.phase > 0 {
			wantErrno(t, "Low of 7", m.Low(7, "t"), api.ErrArg)
		}
		at(t, m, 3, 8, false)
		wantMeet(t, m, highMark(7), mark.Pass)
		wantMeet(t, m, highMark(8), mark.Shut)
	}
	m := mark.New()
	m.Clear()
	wantErrno(t, "Low of -1", m.Low(-1, "t"), api.ErrArg)
	wantErrno(t, "Low of 0", m.Low(0, "t"), api.OK)
}

// R5: markers know nothing of each other.
func TestTwo(t *testing.T) {
	a, b := mark.New(), mark.New()
	at(t, a, 2, 9, true)
	wantThings(t, "the other one's", b, nobody)
	at(t, b, 1, 3, false)
	wantMeet(t, b, lowMark(9), mark.Pass)
	wantMeet(t, a, lowMark(3), mark.Pass)
	a.Clear()
	wantThings(t, "the other one's", b, things{1, 3, "t", false})
	b.Clear()
	at(t, b, 3, 4, false)
	wantThings(t, "the other one's", a, nobody)
}

// R4: what a marker meets it does not change, its spare room neither.
func TestChangesNothing(t *testing.T) {
	spare := api.Value{Kind: api.Text, Text: "spare"}
	m := mark.New()
	at(t, m, 2, 7, false)
	for _, kind := range []int{api.Insert, api.Low, api.High} {
		list := api.Row{{Kind: api.Int, Number: 1}, spare}
		m.Meet(api.Event{Kind: kind, Number: 7, Before: list[:1], After: list[:1]})
		if list[0].Number != 1 || list[1] != spare {
			t.Error("what was met is another one:", list)
		}
	}
}
