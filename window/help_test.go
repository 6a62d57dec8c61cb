package window_test

import (
	"slices"
	"testing"

	"pantograph/api"
	"pantograph/schema"
	"pantograph/window"
)

// people is a schema of one key's column, and of one where Null may stand.
func people() api.Schema {
	return api.Schema{Keys: 1, Columns: []api.Column{{Name: "id", Kind: api.Int}, {Name: "name", Kind: api.Text, None: true}}}
}

// table is a table of people.
func table(name string) api.Table { return api.Table{Name: name, Schema: people()} }

// id is the value n.
func id(n int) api.Value { return api.Value{Kind: api.Int, Number: n} }

// row is a row of people.
func row(n int, name string) api.Row { return api.Row{id(n), {Kind: api.Text, Text: name}} }

// rows is rows of people, of these numbers.
func rows(numbers ...int) []api.Row {
	var l []api.Row
	for _, n := range numbers {
		l = append(l, row(n, "selected"))
	}
	return l
}

// key is the key of the number n.
func key(n int) string {
	s, errno := schema.Key(people(), api.Row{id(n)})
	if errno != api.OK {
		panic(errno)
	}
	return s
}

// put is an event that puts a row of t.
func put(kind, n int, name string) api.Event {
	return api.Event{Kind: kind, Table: "t", After: row(n, name)}
}

// insert is an Insert into t.
func insert(n int) api.Event { return put(api.Insert, n, "inserted") }

// cut is a Delete from t.
func cut(n int) api.Event { return api.Event{Kind: api.Delete, Table: "t", Before: api.Row{id(n)}} }

// alter is an Alter of a table.
func alter(kind int, table string) api.Event {
	c := api.Change{Kind: kind, Table: table}
	switch kind {
	case api.Create:
		c.Schema = people()
	case api.Add, api.Retype:
		c.Column = api.Column{Name: "more", Kind: api.Int, None: true}
	case api.Cut:
		c.Column.Name = "name"
	}
	return api.Event{Kind: api.Alter, Change: c}
}

// upTo is t's work up to the key of n.
func upTo(n int) api.Work { return api.Work{Table: "t", Key: key(n)} }

// all is t's work that is done.
var all = api.Work{Table: "t", Done: true}

// same tells whether two lists of rows are the same, in order.
func same(a, b []api.Row) bool {
	return slices.EqualFunc(a, b, func(a, b api.Row) bool { return slices.Equal(a, b) })
}

// things is what a window tells of itself, but its rows.
type things struct {
	number  int
	table   string
	spoiled bool
}

// nobody is what a window that is shut tells.
var nobody = things{number: -1}

// wantThings checks what a window tells of itself, twice: to be asked changes nothing.
func wantThings(t *testing.T, call string, w *window.Window, want things, rows []api.Row) {
	t.Helper()
	for range 2 {
		got := things{w.Number(), w.Table(), w.Spoiled()}
		if l := w.Rows(); got != want || w.Len() != len(rows) || !same(l, rows) {
			t.Fatalf("behind %s: %v, %d, %v, not %v, %v", call, got, w.Len(), l, want, rows)
		}
	}
}

// opened is a window of t that was opened, of the number 7.
func opened(t *testing.T, size int, after string, l []api.Row) *window.Window {
	t.Helper()
	w := window.New(size)
	if errno := w.Open(7, table("t"), after, l); errno != api.OK {
		t.Fatal("Open:", errno)
	}
	wantThings(t, "Open", w, things{7, "t", false}, l)
	return w
}

// wantTake has a window of the number 7, of t, that is open, take events, and
// checks the rows that it has then.
func wantTake(t *testing.T, w *window.Window, rows []api.Row, l ...api.Event) {
	t.Helper()
	for _, e := range l {
		if errno := w.Take(e); errno != api.OK {
			t.Fatalf("Take of %v: %v", e, errno)
		}
	}
	wantThings(t, "Take", w, things{7, "t", false}, rows)
}

// wantSpoiled checks that a window of the number 7, of t, is spoiled, stays so
// whatever it takes, and is shut as one.
func wantSpoiled(t *testing.T, w *window.Window) {
	t.Helper()
	spoiled := things{7, "t", true}
	wantThings(t, "what spoils it", w, spoiled, nil)
	wrong := api.Event{Kind: api.Insert, Table: "t"}
	for _, e := range []api.Event{insert(1), insert(2), cut(1), alter(api.Drop, "t"), wrong, {}} {
		if errno := w.Take(e); errno != api.OK {
			t.Fatalf("Take of %v: %v", e, errno)
		}
		wantThings(t, "Take", w, spoiled, nil)
	}
	if errno := w.Open(8, table("t"), "", nil); errno != api.ErrState {
		t.Fatal("Open of one that is spoiled:", errno)
	}
	wantShut(t, w, shut{errno: api.ErrState}, 6)
	wantThings(t, "Shut of another number", w, spoiled, nil)
	wantShut(t, w, shut{}, 7)
	wantThings(t, "Shut", w, nobody, nil)
	wantShut(t, w, shut{errno: api.ErrState}, 7)
}

// shut is what a Shut tells.
type shut struct {
	rows  []api.Row
	work  api.Work
	whole bool
	errno api.Errno
}

// wantShut shuts a window, and checks what is told.
func wantShut(t *testing.T, w *window.Window, want shut, number int) {
	t.Helper()
	l, work, whole, errno := w.Shut(number)
	if !same(l, want.rows) || work != want.work || whole != want.whole || errno != want.errno {
		t.Fatalf("Shut of %d: %v, %v, %t, %v, not %v", number, l, work, whole, errno, want)
	}
}
