package window_test

import (
	"fmt"
	"math"
	"slices"
	"strings"
	"testing"

	"pantograph/api"
	"pantograph/schema"
	"pantograph/window"
)

// The chapter's examples.
func TestExamples(t *testing.T) {
	w := opened(t, 2, "", rows(1, 3))
	wantTake(t, w, rows(1, 3), insert(4))
	wantShut(t, w, shut{rows(1, 3), upTo(3), true, api.OK}, 7)

	w = opened(t, 2, "", rows(1, 3))
	if errno := w.Take(insert(2)); errno != api.OK {
		t.Fatal(errno)
	}
	wantSpoiled(t, w)
}

// P13.1: New is shut, whatever size it is handed; to such a one nothing is done.
func TestNew(t *testing.T) {
	for _, size := range []int{math.MinInt, -1, 0, 1, 2, 1000, math.MaxInt} {
		w := window.New(size)
		call := fmt.Sprint("New of ", size)
		wantThings(t, call, w, nobody, nil)
		for _, number := range []int{-2, -1, 0, 1} {
			wantShut(t, w, shut{errno: api.ErrState}, number)
		}
		for _, e := range []api.Event{insert(1), cut(1), alter(api.Drop, "t"), alter(api.Drop, ""), {Kind: api.Insert}, {Kind: api.Delete, Table: "t"}, {}} {
			if errno := w.Take(e); errno != api.OK {
				t.Fatalf("Take of %v: %v", e, errno)
			}
		}
		wantThings(t, call, w, nobody, nil)
	}
}

// P13.1: just as many rows may be as the size; a size below 1 is 1.
func TestSize(t *testing.T) {
	for size, most := range map[int]int{math.MinInt: 1, -1: 1, 0: 1, 1: 1, 2: 2, 3: 3, 8: 8, 1000: 1000} {
		var l []api.Row
		for n := range most + 1 {
			l = append(l, row(n, "x"))
		}
		w := window.New(size)
		if errno := w.Open(7, table("t"), "", l); errno != api.ErrArg {
			t.Fatalf("Open of size %d, with %d rows: %v", size, len(l), errno)
		}
		wantThings(t, "Open", w, nobody, nil)

		w = opened(t, size, "", l[:most])
		wantTake(t, w, l[:most], cut(most), insert(most))
		wantShut(t, w, shut{l[:most], upTo(most - 1), true, api.OK}, 7)

		w = opened(t, size, "", nil)
		for n, r := range l[:most] {
			wantTake(t, w, l[:n+1], api.Event{Kind: api.Update, Table: "t", After: r})
		}
		if errno := w.Take(insert(most)); errno != api.OK {
			t.Fatal(errno)
		}
		wantSpoiled(t, w)
	}
}

// P13.1: the greatest size is never met, and takes no room ahead of need.
func TestGreatSize(t *testing.T) {
	w := opened(t, math.MaxInt, "", rows(1))
	var l []api.Row
	for n := range 2000 {
		l = append(l, row(n, "x"))
		if errno := w.Take(put(api.Update, n, "x")); errno != api.OK {
			t.Fatal(errno)
		}
	}
	wantTake(t, w, l)
	wantShut(t, w, shut{l, all, true, api.OK}, 7)
}

// P13.1: what may be opened, and what may not.
func TestOpen(t *testing.T) {
	name := strings.Repeat("n", api.MaxName)
	long, schemaless, keyless := row(5, strings.Repeat("x", api.MaxText)), table("t"), table("t")
	schemaless.Schema = api.Schema{}
	keyless.Schema.Keys = 0
	null := api.Row{id(4), {}}
	for i, c := range []struct {
		number int
		table  api.Table
		after  string
		rows   []api.Row
		want   api.Errno
	}{
		{0, table("t"), "", nil, api.OK},
		{0, table("t"), "", []api.Row{}, api.OK},
		{math.MaxInt, table(name), "", rows(1, 2, 3), api.OK},
		{1, table("t"), key(1), rows(2, 3, 4), api.OK},
		{1, table("t"), key(math.MinInt), rows(-1, 0, 1), api.OK},
		{1, table("t"), "", rows(math.MinInt, 0, math.MaxInt), api.OK},
		{1, table("t"), key(3)[:1], rows(1), api.OK}, // whatever text stands there
		{1, table("t"), "\xff\xff", nil, api.OK},
		{1, table("t"), "", []api.Row{null, long}, api.OK},
		{-1, table("t"), "", nil, api.ErrArg},
		{math.MinInt, table("t"), "", nil, api.ErrArg},
		{1, table(""), "", nil, api.ErrArg},
		{1, table("T"), "", nil, api.ErrArg},
		{1, table(name + "n"), "", nil, api.ErrArg},
		{1, schemaless, "", nil, api.ErrArg},
		{1, keyless, "", nil, api.ErrArg},
		{1, table("t"), "", rows(1, 2, 3, 4), api.ErrArg},
		{1, table("t"), "", []api.Row{row(1, ""), {id(2)}}, api.ErrArg},
		{1, table("t"), "", []api.Row{row(1, ""), append(row(2, ""), id(3))}, api.ErrArg},
		{1, table("t"), "", []api.Row{nil}, api.ErrArg},
		{1, table("t"), "", []api.Row{{{}, {}}}, api.ErrArg},
		{1, table("t"), "", []api.Row{{id(1), id(1)}}, api.ErrArg},
		{1, table("t"), "", []api.Row{row(1, strings.Repeat("x", api.MaxText+1))}, api.ErrArg},
		{1, table("t"), "", rows(1, 1), api.ErrArg},
		{1, table("t"), "", rows(1, 3, 2), api.ErrArg},
		{1, table("t"), "", rows(2, 1, 3), api.ErrArg},
		{1, table("t"), key(1), rows(1), api.ErrArg},
		{1, table("t"), key(1), rows(0, 2), api.ErrArg},
		{1, table("t"), key(3), rows(1, 4), api.ErrArg},
		{1, table("t"), "\xff", rows(1), api.ErrArg},
	} {
		w := window.New(3)
		if errno := w.Open(c.number, c.table, c.after, c.rows); errno != c.want {
			t.Errorf("%d: %v, not %v", i, errno, c.want)
		} else if errno == api.OK {
			wantThings(t, "Open", w, things{c.number, c.table.Name, false}, c.rows)
		} else {
			wantThings(t, "Open", w, nobody, nil)
		}
	}
}

// P13.1, R2: one that is open is not opened anew, ahead of whatever else is
// wrong; nor is anything of it changed.
func TestOpenTwice(t *testing.T) {
	w := opened(t, 2, key(1), rows(2, 3))
	for _, number := range []int{7, 8, -1} {
		for _, name := range []string{"t", "u", ""} {
			for _, l := range [][]api.Row{nil, rows(5), rows(2, 1), rows(1, 2, 3)} {
				if errno := w.Open(number, table(name), "", l); errno != api.ErrState {
					t.Fatal(errno)
				}
				wantThings(t, "Open", w, things{7, "t", false}, rows(2, 3))
			}
		}
	}
	wantTake(t, w, rows(2, 3), insert(1), insert(4))
	wantShut(t, w, shut{rows(2, 3), upTo(3), true, api.OK}, 7)
}

// P13.2: what is in it, is put and taken away there; what is not, is not.
func TestTake(t *testing.T) {
	for i, c := range []struct {
		size  int
		after string
		rows  []api.Row
		take  []api.Event
		want  []api.Row
	}{
		// With an end, from the beginning.
		{2, "", rows(2, 4), []api.Event{put(api.Insert, 2, "x"), put(api.Update, 4, "y")}, []api.Row{row(2, "x"), row(4, "y")}},
		{2, "", rows(2, 4), []api.Event{insert(5), put(api.Update, 5, "x"), cut(5), insert(math.MaxInt)}, rows(2, 4)},
		{2, "", rows(2, 4), []api.Event{cut(4), put(api.Insert, 1, "x")}, []api.Row{row(1, "x"), rows(2)[0]}},
		{2, "", rows(2, 4), []api.Event{cut(2), cut(4), cut(4), put(api.Insert, 3, "x")}, []api.Row{row(3, "x")}},
		{2, "", rows(2, 4), []api.Event{cut(2), cut(4), put(api.Insert, 4, "x"), put(api.Update, 5, "y")}, []api.Row{row(4, "x")}},
		{2, "", rows(2, 4), []api.Event{cut(2), put(api.Insert, math.MinInt, "x")}, []api.Row{row(math.MinInt, "x"), rows(4)[0]}},
		// With an end, behind a key.
		{2, key(1), rows(2, 4), []api.Event{insert(1), insert(0), cut(1), cut(0), put(api.Update, 1, "x"), insert(math.MinInt)}, rows(2, 4)},
		{2, key(1), rows(2, 4), []api.Event{cut(2), put(api.Update, 3, "x"), insert(5), insert(1)}, []api.Row{row(3, "x"), rows(4)[0]}},
		// The last one.
		{3, "", rows(2, 4), []api.Event{put(api.Insert, 9, "x")}, append(rows(2, 4), row(9, "x"))},
		{3, key(1), rows(2, 4), []api.Event{insert(1), put(api.Update, math.MaxInt, "x"), cut(2)}, append(rows(4), row(math.MaxInt, "x"))},
		{1, key(1), nil, []api.Event{put(api.Insert, 9, "x"), insert(1)}, []api.Row{row(9, "x")}},
		{1, key(1), nil, []api.Event{insert(9), cut(9), put(api.Insert, 8, "x")}, []api.Row{row(8, "x")}},
		{1, "\xff", nil, []api.Event{insert(9), insert(10), cut(9)}, nil},
		// A row that is of the column where Null may stand.
		{1, "", rows(2), []api.Event{{Kind: api.Update, Table: "t", After: api.Row{id(2), {}}}}, []api.Row{{id(2), {}}}},
	} {
		t.Run(fmt.Sprint(i), func(t *testing.T) {
			wantTake(t, opened(t, c.size, c.after, c.rows), c.want, c.take...)
		})
	}
}

// P13.2: it is the rows that were selected that tell which one is the last, and
// where the end is, whatever rows there are later on.
func TestEndStays(t *testing.T) {
	w := opened(t, 3, "", rows(1, 2))
	wantTake(t, w, rows(1, 2), insert(9), cut(9), insert(8), cut(8))
	wantTake(t, w, append(rows(1, 2), insert(5).After), insert(5))
	wantTake(t, w, []api.Row{insert(5).After, insert(9).After}, cut(1), cut(2), insert(9))
	wantShut(t, w, shut{[]api.Row{insert(5).After, insert(9).After}, all, true, api.OK}, 7)

	w = opened(t, 2, "", rows(1, 4))
	wantTake(t, w, nil, cut(1), cut(4), insert(5))
	wantTake(t, w, []api.Row{insert(3).After}, insert(3), insert(5))
	wantTake(t, w, []api.Row{insert(3).After, insert(4).After}, insert(4), insert(6))
	wantTake(t, w, []api.Row{insert(3).After}, cut(4))
	wantShut(t, w, shut{[]api.Row{insert(3).After}, upTo(4), true, api.OK}, 7)
}

// P13.2: one row more than the size spoils it, wherever that comes to stand;
// a row in place of another one does not.
func TestTooMany(t *testing.T) {
	for _, kind := range []int{api.Insert, api.Update} {
		for _, n := range []int{math.MinInt, 2, 4, 6} {
			w := opened(t, 3, "", rows(3, 5, 7))
			wantTake(t, w, rows(3, 5, 7), put(kind, 3, "selected"), put(kind, 8, "x"), put(kind, 7, "selected"))
			if errno := w.Take(put(kind, n, "x")); errno != api.OK {
				t.Fatal(errno)
			}
			wantSpoiled(t, w)
		}
	}
	w := opened(t, 2, key(2), rows(3))
	wantTake(t, w, append(rows(3), insert(9).After), insert(9), insert(2))
	if errno := w.Take(insert(math.MaxInt)); errno != api.OK {
		t.Fatal(errno)
	}
	wantSpoiled(t, w)
}

// P13.2: each Alter of its table spoils it, of another one none.
func TestAlter(t *testing.T) {
	for _, kind := range []int{api.Create, api.Drop, api.Add, api.Cut, api.Retype} {
		w := opened(t, 2, "", rows(1, 3))
		wantTake(t, w, rows(1, 3), alter(kind, "u"), alter(kind, "tt"), alter(kind, ""))
		if errno := w.Take(alter(kind, "t")); errno != api.OK {
			t.Fatal(errno)
		}
		wantSpoiled(t, w)
	}
}

// P13.2: events of other tables, and of other kinds, do nothing, be they ever so
// wrong; a change, or a table, that another kind names, neither.
func TestOthers(t *testing.T) {
	w := opened(t, 2, "", rows(1, 3))
	for _, e := range []api.Event{insert(1), insert(2), cut(1), {Kind: api.Insert}, {Kind: api.Delete}, {Kind: api.Update, After: api.Row{{}}}} {
		for _, name := range []string{"u", "", "T", "tt"} {
			e.Table = name
			wantTake(t, w, rows(1, 3), e)
		}
	}
	other := alter(api.Drop, "t")
	other.Table, other.After, other.Before = "t", row(2, "x"), api.Row{id(1)}
	for _, kind := range []int{api.Start, api.Begin, api.Commit, api.Abort, api.Low, api.High, 0, -1, 11, 256 + api.Alter} {
		other.Kind = kind
		wantTake(t, w, rows(1, 3), other)
	}
	wantTake(t, w, []api.Row{row(1, "x"), rows(3)[0]}, put(api.Update, 1, "x"))
}

// P13.2: a row that does not fit, or the values of no key, are told, in the
// window and out of it, and change nothing.
func TestWrongRows(t *testing.T) {
	long := strings.Repeat("x", api.MaxText+1)
	w := opened(t, 2, key(1), rows(2, 3))
	for _, r := range []api.Row{
		nil, {}, {id(2)}, {id(9)}, append(row(2, "x"), id(1)), {id(2), id(2)}, {{}, {}}, {{}, {Kind: api.Text}},
		{{Kind: api.Text, Text: "2"}, {Kind: api.Text}}, row(2, long), row(9, long), {{Kind: api.Int, Number: 2, Text: "x"}, {}}, {id(2), {Number: 1}},
	} {
		for _, kind := range []int{api.Insert, api.Update} {
			// What stands in the field of another kind does not matter.
			for _, before := range []api.Row{nil, row(2, "x"), {id(2)}} {
				if errno := w.Take(api.Event{Kind: kind, Table: "t", Before: before, After: r}); errno != api.ErrRow {
					t.Errorf("%d of %v: %v", kind, r, errno)
				}
			}
		}
	}
	for _, r := range []api.Row{
		nil, {}, {{}}, {{Kind: api.Text, Text: "2"}}, {{Kind: api.Bool, Number: 1}}, {{Kind: api.Int, Number: 2, Text: "x"}}, {{Kind: api.Int, Number: 9, Text: "x"}}, row(2, "x"), row(9, "x"), {id(2), id(3)},
	} {
		for _, after := range []api.Row{nil, row(2, "x"), {id(2)}} {
			if errno := w.Take(api.Event{Kind: api.Delete, Table: "t", Before: r, After: after}); errno != api.ErrRow {
				t.Errorf("Delete of %v: %v", r, errno)
			}
		}
	}
	wantThings(t, "events that are wrong", w, things{7, "t", false}, rows(2, 3))
	wantTake(t, w, rows(3), cut(2))
}

// P13.2: even of a window that is full a row that does not fit is told, and does
// not spoil it.
func TestWrongRowOfFull(t *testing.T) {
	w := opened(t, 2, "", rows(1, 3))
	if errno := w.Take(api.Event{Kind: api.Insert, Table: "t", After: api.Row{id(2)}}); errno != api.ErrRow {
		t.Fatal(errno)
	}
	wantTake(t, w, rows(1, 3))
}

// P13.3: it is shut by its own number alone, and tells its rows and its work.
func TestShut(t *testing.T) {
	for _, c := range []struct {
		number, size int
		after        string
		rows         []api.Row
		work         api.Work
	}{
		{0, 2, "", rows(1, 3), upTo(3)},
		{1, 2, key(1), rows(2, 3), upTo(3)},
		{5, 1, key(1), rows(math.MaxInt), upTo(math.MaxInt)},
		{math.MaxInt, 3, "", rows(1, 3), all},
		{0, 1, "", nil, all},
		{0, 1, key(8), nil, all},
	} {
		w := window.New(c.size)
		for range 3 {
			if errno := w.Open(c.number, table("t"), c.after, c.rows); errno != api.OK {
				t.Fatal(errno)
			}
			for _, other := range []int{-1, math.MinInt, c.number - 1, c.number ^ 1, -c.number - 1} {
				wantShut(t, w, shut{errno: api.ErrState}, other)
				wantThings(t, "Shut of another number", w, things{c.number, "t", false}, c.rows)
			}
			wantShut(t, w, shut{c.rows, c.work, true, api.OK}, c.number)
			wantThings(t, "Shut", w, nobody, nil)
			wantShut(t, w, shut{errno: api.ErrState}, c.number)
			wantShut(t, w, shut{errno: api.ErrState}, -1)
		}
	}
}

// P13.3: the work's table and key are those of the window.
func TestWork(t *testing.T) {
	s := api.Schema{Keys: 2, Columns: []api.Column{{Name: "a", Kind: api.Text}, {Name: "b", Kind: api.Bool}}}
	var l []api.Row
	for _, text := range []string{"", "\x00", "a", "ab", "b"} {
		for n := range 2 {
			l = append(l, api.Row{{Kind: api.Text, Text: text}, {Kind: api.Bool, Number: n}})
		}
	}
	keys := []string{""}
	for _, r := range l {
		k, errno := schema.Key(s, r)
		if errno != api.OK {
			t.Fatal(errno)
		}
		keys = append(keys, k)
	}
	if !slices.IsSorted(keys) {
		t.Fatal("these keys do not rise")
	}
	for from := range l {
		for to := from; to <= len(l); to++ {
			for _, size := range []int{max(to-from, 1), to - from + 1} {
				w := window.New(size)
				if errno := w.Open(3, api.Table{Name: "pairs", Schema: s}, keys[from], l[from:to]); errno != api.OK {
					t.Fatal(errno)
				}
				want := api.Work{Table: "pairs", Done: to-from < size}
				if !want.Done {
					want.Key = keys[to]
				}
				wantShut(t, w, shut{l[from:to], want, true, api.OK}, 3)
			}
		}
	}
}

// P13.3: what is cleared is shut, whatever it was, and may be opened anew.
func TestClear(t *testing.T) {
	full := opened(t, 2, key(1), rows(2, 3))
	spoiled := opened(t, 2, "", rows(1, 3))
	if errno := spoiled.Take(insert(2)); errno != api.OK {
		t.Fatal(errno)
	}
	for _, w := range []*window.Window{window.New(2), full, spoiled} {
		for range 2 {
			w.Clear()
			wantThings(t, "Clear", w, nobody, nil)
			wantShut(t, w, shut{errno: api.ErrState}, 7)
			wantShut(t, w, shut{errno: api.ErrState}, -1)
		}
		// Nothing is left of what was; but the size is.
		if errno := w.Open(7, table("t"), "", rows(1, 2, 3)); errno != api.ErrArg {
			t.Fatal(errno)
		}
		if errno := w.Open(7, table("t"), "", rows(4)); errno != api.OK {
			t.Fatal(errno)
		}
		wantTake(t, w, append([]api.Row{insert(1).After}, rows(4)...), insert(1))
		wantShut(t, w, shut{append([]api.Row{insert(1).After}, rows(4)...), all, true, api.OK}, 7)
	}
}

// P13.3: behind one that was spoiled another one is as ever, of another schema too.
func TestBehindSpoiled(t *testing.T) {
	w := opened(t, 2, "", rows(1, 3))
	if errno := w.Take(alter(api.Cut, "t")); errno != api.OK {
		t.Fatal(errno)
	}
	wantSpoiled(t, w)
	narrow := table("t")
	narrow.Schema.Columns = narrow.Schema.Columns[:1]
	if errno := w.Open(7, narrow, "", []api.Row{{id(1)}}); errno != api.OK {
		t.Fatal(errno)
	}
	if errno := w.Take(insert(1)); errno != api.ErrRow {
		t.Fatal(errno)
	}
	wantTake(t, w, []api.Row{{id(1)}, {id(4)}}, api.Event{Kind: api.Insert, Table: "t", After: api.Row{id(4)}})
	wantShut(t, w, shut{[]api.Row{{id(1)}, {id(4)}}, all, true, api.OK}, 7)
}
