package txbuf_test

import (
	"testing"

	"pantograph/api"
	"pantograph/event"
	"pantograph/txbuf"
)

// told is what a Put tells.
type told struct {
	events []api.Event
	stands bool
	errno  api.Errno
}

// things is what a buffer tells of itself.
type things struct {
	held   int
	open   bool
	number int
}

// nobody is what a buffer without a transaction tells.
var nobody = things{number: -1}

// same tells whether two lists of events are the same, in order.
func same(a, b []api.Event) bool {
	if len(a) != len(b) {
		return false
	}
	for i := range a {
		if !event.Same(a[i], b[i]) {
			return false
		}
	}
	return true
}

// wantPut puts an event, and checks what is told.
func wantPut(t *testing.T, b *txbuf.Buffer, e api.Event, want told) {
	t.Helper()
	events, stands, errno := b.Put(e)
	if !same(events, want.events) || stands != want.stands || errno != want.errno {
		t.Fatalf("Put of %v: %v, %t, %v, not %v, %t, %v", e, events, stands, errno, want.events, want.stands, want.errno)
	}
}

// wantThings checks what a buffer tells of itself, twice: to be asked changes nothing.
func wantThings(t *testing.T, call string, b *txbuf.Buffer, want things) {
	t.Helper()
	for range 2 {
		if got := (things{b.Len(), b.Open(), b.Number()}); got != want {
			t.Fatalf("behind %s: %v, not %v", call, got, want)
		}
	}
}

// wantEnd puts a transaction's Commit, that tells what was held, or its Abort,
// that tells nothing; behind either none is open.
func wantEnd(t *testing.T, b *txbuf.Buffer, kind, number int, held []api.Event) {
	t.Helper()
	wantThings(t, "the last Put", b, things{b.Len(), true, number})
	if kind == api.Commit {
		wantPut(t, b, ending(kind, number), told{events: held, stands: true})
	} else {
		wantPut(t, b, ending(kind, number), told{})
	}
	wantThings(t, "the end", b, nobody)
	wantPut(t, b, ending(kind, number), told{errno: api.ErrState})
	wantThings(t, "a second end", b, nobody)
}

// ending is an event that has a number alone.
func ending(kind, number int) api.Event { return api.Event{Kind: kind, Number: number} }

// kinds is the kinds that are held.
func kinds() []int { return []int{api.Insert, api.Update, api.Delete, api.Alter} }

// row is an event of a kind that is held, in memory of its own; n tells it from
// others.
func row(kind, n int) api.Event {
	values := api.Row{{Kind: api.Int, Number: n}, {Kind: api.Text, Text: "some"}}
	switch kind {
	case api.Delete:
		return api.Event{Kind: kind, Table: "t", Before: values[:1]}
	case api.Alter:
		s := api.Schema{Keys: 1, Columns: []api.Column{{Name: "id", Kind: api.Int}, {Name: "more", Kind: 1 + n&3, None: true}}}
		return api.Event{Kind: kind, Change: api.Change{Kind: api.Create, Table: "t", Schema: s}}
	}
	return api.Event{Kind: kind, Table: "t", After: values}
}

// full is an event of each kind that is held with something in all its fields,
// and some with the changes that there are.
func full() []api.Event {
	var l []api.Event
	for i, kind := range kinds() {
		e := row(api.Alter, i)
		e.Kind, e.Number, e.Table = kind, 40+i, "u"
		e.Before = api.Row{{Kind: api.Bool, Number: 1}, {Kind: api.Bytes, Text: "\xff\x00"}, {}}
		e.After = api.Row{{Kind: api.Text, Text: "ä"}, {Kind: 99, Number: -1, Text: "\xff"}, {Kind: api.Int, Number: i}}
		e.Change.Column = api.Column{Name: "c", Kind: api.Bytes, None: true}
		l = append(l, e)
	}
	for _, kind := range []int{api.Create, api.Drop, api.Add, api.Cut, api.Retype, 0, -1} {
		e := row(api.Alter, kind)
		e.Change.Kind = kind
		l = append(l, e, api.Event{Kind: api.Alter, Change: api.Change{Kind: kind, Table: "v", Column: api.Column{Name: "d"}}})
	}
	return append(l, api.Event{Kind: api.Insert}, api.Event{Kind: api.Delete, Table: "\xff"}, row(api.Insert, 1), row(api.Insert, 1))
}
