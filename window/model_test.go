package window_test

import (
	"math/rand/v2"
	"slices"
	"testing"

	"pantograph/api"
	"pantograph/window"
)

// first stands on paper for what is ahead of all numbers.
const first = -1 << 40

// paper is a window of people on paper: how it was opened, and what it took
// since. All else is looked up there.
type paper struct {
	size     int
	open     bool
	number   int
	table    string
	after    int
	selected []api.Row
	took     []api.Event
}

// in is the chapter's words: whether a key is in it.
func (p paper) in(n int) bool {
	last := len(p.selected) < p.size
	return n > p.after && (last || n <= p.selected[len(p.selected)-1][0].Number)
}

// rows is the rows that there are, and whether it is spoiled.
func (p paper) rows() ([]api.Row, bool) {
	l := p.selected
	for _, e := range p.took {
		switch {
		case e.Kind == api.Alter && e.Change.Table == p.table:
			return nil, true
		case e.Table != p.table:
		case e.Kind == api.Insert || e.Kind == api.Update:
			if p.in(e.After[0].Number) {
				l = append(without(l, e.After[0].Number), e.After)
			}
		case e.Kind == api.Delete && p.in(e.Before[0].Number):
			l = without(l, e.Before[0].Number)
		}
		if len(l) > p.size {
			return nil, true
		}
	}
	return slices.SortedFunc(slices.Values(l), func(a, b api.Row) int { return a[0].Number - b[0].Number }), false
}

// without is rows but that of a number, in memory of its own.
func without(l []api.Row, n int) []api.Row {
	var rest []api.Row
	for _, r := range l {
		if r[0].Number != n {
			rest = append(rest, r)
		}
	}
	return rest
}

// fit tells whether the rows of an event are those of people. (Rows are told from
// one another by how many values they have alone, here.)
func fit(e api.Event) bool {
	return e.Kind == api.Delete && len(e.Before) == 1 || (e.Kind == api.Insert || e.Kind == api.Update) && len(e.After) == 2
}

// take is what Take of e tells, and paper behind it.
func (p *paper) take(e api.Event) api.Errno {
	if !p.open {
		return api.OK
	}
	_, spoiled := p.rows()
	told := e.Kind == api.Insert || e.Kind == api.Update || e.Kind == api.Delete
	if !spoiled && told && e.Table == p.table && !fit(e) {
		return api.ErrRow
	}
	if !spoiled {
		p.took = append(p.took[:len(p.took):len(p.took)], e)
	}
	return api.OK
}

// shut is what Shut tells, and paper behind it.
func (p *paper) shut(number int) shut {
	if !p.open || p.number != number {
		return shut{errno: api.ErrState}
	}
	l, spoiled := p.rows()
	was := *p
	*p = paper{size: p.size}
	switch {
	case spoiled:
		return shut{}
	case len(was.selected) < was.size:
		return shut{l, api.Work{Table: was.table, Done: true}, true, api.OK}
	}
	end := was.selected[len(was.selected)-1][0].Number
	return shut{l, api.Work{Table: was.table, Key: key(end)}, true, api.OK}
}

// call is a call of a window of people: an Open, a Take, a Shut or a Clear.
type call struct {
	what   string
	number int
	table  string
	after  int
	rows   []api.Row
	event  api.Event
}

// may tells whether an Open may be.
func (c call) may(size int) bool {
	last := c.after
	for _, r := range c.rows {
		if len(r) != 2 || r[0].Number <= last {
			return false
		}
		last = r[0].Number
	}
	return c.number >= 0 && len(c.rows) <= size
}

// do does a call on a window and on paper, and checks that both tell the same.
func (c call) do(t *testing.T, w *window.Window, p *paper) {
	t.Helper()
	switch c.what {
	case "Open":
		want, after := api.OK, ""
		if c.after != first {
			after = key(c.after)
		}
		switch {
		case p.open:
			want = api.ErrState
		case !c.may(p.size):
			want = api.ErrArg
		default:
			*p = paper{p.size, true, c.number, c.table, c.after, c.rows, nil}
		}
		if errno := w.Open(c.number, table(c.table), after, c.rows); errno != want {
			t.Fatalf("%v: %v, not %v", c, errno, want)
		}
	case "Take":
		want := p.take(c.event)
		if errno := w.Take(c.event); errno != want {
			t.Fatalf("%v: %v, not %v", c, errno, want)
		}
	case "Shut":
		wantShut(t, w, p.shut(c.number), c.number)
	case "Clear":
		w.Clear()
		*p = paper{size: p.size}
	}
}

// wantCalls does calls one by one, and checks each against paper.
func wantCalls(t *testing.T, size int, l []call) {
	t.Helper()
	w, p := window.New(size), &paper{size: size}
	for i, c := range l {
		c.do(t, w, p)
		want, rows := nobody, []api.Row(nil)
		if p.open {
			l, spoiled := p.rows()
			want, rows = things{p.number, p.table, spoiled}, l
		}
		got := things{w.Number(), w.Table(), w.Spoiled()}
		if got != want || w.Len() != len(rows) || w.Len() > size || !same(w.Rows(), rows) {
			t.Fatalf("behind %v, of size %d: %v, %d, %v, not %v, %v", l[:i+1], size, got, w.Len(), w.Rows(), want, rows)
		}
	}
}

// P13.1 to P13.3: all rows of an Open and four calls more out of some, of the
// sizes 1 and 2.
func TestAllRows(t *testing.T) {
	opens := []call{
		{what: "Open", number: 1, table: "t", after: first, rows: rows(1, 3)},
		{what: "Open", number: 1, table: "t", after: 1, rows: rows(3)},
		{what: "Open", number: 0, table: "t", after: 2},
	}
	calls := []call{
		opens[1], {what: "Shut", number: 1}, {what: "Shut"}, {what: "Clear"}, {what: "Take", event: alter(api.Add, "t")},
	}
	for n := 1; n <= 4; n++ {
		calls = append(calls, call{what: "Take", event: insert(n)}, call{what: "Take", event: cut(n)})
	}
	const most = 5
	l := make([]call, 0, most)
	var follow func()
	follow = func() {
		// A row's beginnings are gone through with it.
		if len(l) == most {
			wantCalls(t, 1, l)
			wantCalls(t, 2, l)
			return
		}
		next := calls
		if len(l) == 0 {
			next = opens
		}
		for _, c := range next {
			l = append(l, c)
			follow()
			l = l[:len(l)-1]
		}
	}
	follow()
}

// P13.1 to P13.3: seeded long rows, of more numbers, tables and rows that may
// not be.
func TestLongRows(t *testing.T) {
	r := rand.New(rand.NewPCG(13, 4))
	for range 1500 {
		size := []int{1, 2, 3, 5, 30}[r.IntN(5)]
		var l []call
		for range 60 {
			l = append(l, anyCall(r, size))
		}
		wantCalls(t, size, l)
	}
}

// anyCall is a call by chance.
func anyCall(r *rand.Rand, size int) call {
	tables := []string{"t", "t", "t", "u"}
	c := call{number: r.IntN(3) - r.IntN(8)/7, table: tables[r.IntN(4)], after: first}
	switch k := r.IntN(30); {
	case k < 4:
		c.what = "Open"
		if r.IntN(2) == 0 {
			c.after = r.IntN(20) - 5
		}
		at := max(c.after, -5)
		for range min(size+r.IntN(9)/8, r.IntN(8)) {
			at += 1 + r.IntN(3) - r.IntN(20)/19
			c.rows = append(c.rows, anyRow(r, at))
		}
	case k < 5:
		c.what = "Shut"
	case k < 6 && r.IntN(8) == 0:
		c.what = "Clear"
	default:
		c.what = "Take"
		c.event = anyEvent(r, c.table)
	}
	return c
}

// anyRow is a row of people of a number; seldom one that does not fit.
func anyRow(r *rand.Rand, n int) api.Row {
	l := row(n, string(rune('a'+r.IntN(26))))
	if r.IntN(60) == 0 {
		return l[:1]
	}
	return l
}

// anyEvent is an event by chance.
func anyEvent(r *rand.Rand, table string) api.Event {
	n := r.IntN(30) - 5
	switch k := r.IntN(40); {
	case k < 12:
		return api.Event{Kind: api.Insert + r.IntN(2), Table: table, After: anyRow(r, n)}
	case k < 38:
		e := api.Event{Kind: api.Delete, Table: table, Before: api.Row{id(n)}}
		if r.IntN(60) == 0 {
			e.Before = row(n, "long")
		}
		return e
	case k < 39:
		return alter(api.Create+r.IntN(5), table)
	}
	return api.Event{Kind: r.IntN(20) - 5, Table: table, After: row(n, "x"), Before: api.Row{id(n)}}
}
