package window_test

import (
	"slices"
	"testing"

	"pantograph/api"
	"pantograph/schema"
	"pantograph/window"
)

// overwrite writes over a row, its spare room too.
func overwrite(r api.Row) {
	for i := range r[:cap(r)] {
		r[:cap(r)][i] = api.Value{Kind: api.Bytes, Number: 66, Text: "overwritten"}
	}
}

// roomy is a row of people with spare room.
func roomy(n int, name string) api.Row { return slices.Grow(row(n, name), 5) }

// R4: what was handed in is not kept: neither rows nor columns, nor those that
// an event tells.
func TestKeepsNothing(t *testing.T) {
	l := []api.Row{roomy(1, "a"), roomy(3, "b")}
	tab := table("t")
	tab.Schema.Columns = slices.Grow(tab.Schema.Columns, 5)
	w := window.New(3)
	if errno := w.Open(7, tab, "", l); errno != api.OK {
		t.Fatal(errno)
	}
	for i := range l {
		overwrite(l[i])
		l[i] = nil
	}
	for i := range tab.Schema.Columns[:cap(tab.Schema.Columns)] {
		tab.Schema.Columns[:cap(tab.Schema.Columns)][i] = api.Column{Name: "overwritten", Kind: 66}
	}
	wantThings(t, "Open", w, things{7, "t", false}, []api.Row{row(1, "a"), row(3, "b")})

	for i, kind := range []int{api.Insert, api.Update} {
		e := api.Event{Kind: kind, Table: "t", After: roomy(2+i, "c")}
		if errno := w.Take(e); errno != api.OK {
			t.Fatal(errno)
		}
		overwrite(e.After)
	}
	gone := api.Event{Kind: api.Delete, Table: "t", Before: slices.Grow(api.Row{id(1)}, 5)}
	if errno := w.Take(gone); errno != api.OK {
		t.Fatal(errno)
	}
	overwrite(gone.Before)
	wantShut(t, w, shut{[]api.Row{row(2, "c"), row(3, "c")}, all, true, api.OK}, 7)
}

// R4: what was handed in is not changed, its spare room neither.
func TestChangesNothing(t *testing.T) {
	spare := api.Value{Kind: api.Text, Text: "spare"}
	l := slices.Grow([]api.Row{roomy(1, "a"), roomy(3, "b")}, 3)
	l[:3][2] = api.Row{spare}
	tab := table("t")
	tab.Schema.Columns = slices.Grow(tab.Schema.Columns, 5)
	tab.Schema.Columns[:3][2].Name = "spare"
	change := api.Event{Kind: api.Update, Table: "t", After: roomy(3, "c")}
	gone := api.Event{Kind: api.Delete, Table: "t", Before: slices.Grow(api.Row{id(1)}, 5)}
	rooms := []api.Row{l[0], l[1], change.After}
	for _, r := range rooms {
		r[:3][2] = spare
	}
	gone.Before[:2][1] = spare

	w := window.New(2)
	for range 2 {
		if errno := w.Open(7, tab, "", l); errno != api.OK {
			t.Fatal(errno)
		}
		wantTake(t, w, []api.Row{row(3, "c")}, change, gone)
		told, _, _, _ := w.Shut(7)
		for _, r := range append(told, w.Rows()...) {
			overwrite(r)
		}
	}
	if !same(l, []api.Row{row(1, "a"), row(3, "b")}) || !same(l[2:3], []api.Row{{spare}}) {
		t.Error("the rows that were selected are other ones:", l[:3])
	}
	if !schema.Same(tab.Schema, people()) || tab.Schema.Columns[:3][2].Name != "spare" {
		t.Error("the columns are other ones")
	}
	if !slices.Equal(change.After, row(3, "c")) || !slices.Equal(gone.Before, api.Row{id(1)}) || gone.Before[:2][1] != spare {
		t.Error("an event's rows are other ones")
	}
	for i, r := range rooms {
		if r[:3][2] != spare {
			t.Errorf("the spare room of the row %d is another one", i)
		}
	}
}

// R4: what is told is new memory, each time, and no two rows of it share any.
func TestTellsNewMemory(t *testing.T) {
	w := opened(t, 3, "", []api.Row{row(1, "a"), row(3, "b")})
	want := []api.Row{row(1, "a"), row(2, "c"), row(3, "b")}
	wantTake(t, w, want, put(api.Insert, 2, "c"))
	for range 3 {
		l := w.Rows()
		for i, r := range l[:cap(l)] {
			overwrite(r)
			l[:cap(l)][i] = nil
		}
		wantThings(t, "Rows", w, things{7, "t", false}, want)
	}
	first, second := w.Rows(), w.Rows()
	overwrite(first[1])
	if longer := append(first[0], id(5)); len(longer) != 3 {
		t.Fatal(longer)
	}
	if !same(second, want) || !slices.Equal(first[0], want[0]) || !slices.Equal(first[2], want[2]) {
		t.Error("rows that are told share memory")
	}
}

// R4: what Shut told is the asker's: no window that is opened later changes it,
// nor is one changed by what is done to it.
func TestShutTellsNewMemory(t *testing.T) {
	w := opened(t, 3, "", []api.Row{row(1, "a"), row(3, "b")})
	kept := w.Rows()
	first, _, _, _ := w.Shut(7)
	for n := range 3 {
		if errno := w.Open(7, table("t"), "", []api.Row{row(1, "a"), row(3, "b")}); errno != api.OK {
			t.Fatal(errno)
		}
		wantTake(t, w, []api.Row{row(1, "new"), row(3, "b")}, put(api.Update, 1, "new"))
		l, _, _, _ := w.Shut(7)
		if n < 2 {
			for _, r := range l {
				overwrite(r)
			}
		}
		if !same(first, kept) || !same(kept, []api.Row{row(1, "a"), row(3, "b")}) {
			t.Fatal("what was told first is another one:", first, kept)
		}
	}
}

// R4: nil and empty lists are one.
func TestEmptyLists(t *testing.T) {
	for _, none := range [][]api.Row{nil, {}} {
		w := opened(t, 1, key(1), none)
		for _, before := range []api.Row{nil, {}} {
			e := put(api.Insert, 2, "x")
			e.Before, e.Change.Schema.Columns = before, []api.Column{}
			wantTake(t, w, []api.Row{row(2, "x")}, e)
			gone := cut(2)
			gone.After = before
			wantTake(t, w, nil, gone)
			for _, wrong := range []api.Event{{Kind: api.Update, Table: "t", After: before}, {Kind: api.Delete, Table: "t", Before: before}} {
				if errno := w.Take(wrong); errno != api.ErrRow {
					t.Fatal(errno)
				}
			}
		}
		wantShut(t, w, shut{nil, all, true, api.OK}, 7)
	}
}
