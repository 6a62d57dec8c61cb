package txbuf_test

import (
	"slices"
	"testing"

	"pantograph/api"
	"pantograph/event"
	"pantograph/txbuf"
)

// roomy is an event all of whose lists have spare room, in memory of its own.
func roomy(n int) api.Event {
	e := row(api.Alter, n)
	e.Before = slices.Grow(api.Row{{Kind: api.Int, Number: n}}, 5)
	e.After = slices.Grow(api.Row{{Kind: api.Int, Number: n}, {Kind: api.Text, Text: "x"}}, 5)
	e.Change.Schema.Columns = slices.Grow(e.Change.Schema.Columns, 5)
	return e
}

// spoil writes over all of an event's lists, their spare room too.
func spoil(e api.Event) {
	for _, l := range []api.Row{e.Before, e.After} {
		for i := range l[:cap(l)] {
			l[:cap(l)][i] = api.Value{Kind: api.Bytes, Number: 66, Text: "spoilt"}
		}
	}
	columns := e.Change.Schema.Columns
	for i := range columns[:cap(columns)] {
		columns[:cap(columns)][i] = api.Column{Name: "spoilt", Kind: 66}
	}
}

// isSpoilt tells whether anything of an event's lists, or of their spare room,
// was written over.
func isSpoilt(e api.Event) bool {
	is := func(v api.Value) bool { return v.Text == "spoilt" }
	columns := e.Change.Schema.Columns
	return slices.ContainsFunc(e.Before[:cap(e.Before)], is) || slices.ContainsFunc(e.After[:cap(e.After)], is) ||
		slices.ContainsFunc(columns[:cap(columns)], func(c api.Column) bool { return c.Name == "spoilt" })
}

// R4: what was handed in is not kept, at any depth.
func TestKeepsNothing(t *testing.T) {
	b := txbuf.New(3)
	wantPut(t, b, ending(api.Begin, 1), told{})
	var held []api.Event
	for i, kind := range kinds()[:3] {
		e, own := roomy(i), roomy(i)
		e.Kind, own.Kind = kind, kind
		wantPut(t, b, e, told{})
		spoil(e)
		held = append(held, own)
	}
	refused := roomy(4)
	wantPut(t, b, refused, told{errno: api.ErrLimit})
	spoil(refused)
	wantEnd(t, b, api.Commit, 1, held)
}

// R4: what was handed in is not changed, its spare room neither.
func TestChangesNothing(t *testing.T) {
	b := txbuf.New(1)
	e, other := roomy(1), roomy(2)
	spare := api.Value{Kind: api.Text, Text: "spare"}
	e.After[:3][2], e.Before[:2][1] = spare, spare
	e.Change.Schema.Columns[:3][2] = api.Column{Name: "spare"}
	wantPut(t, b, e, told{errno: api.ErrState})
	wantPut(t, b, ending(api.Begin, 1), told{})
	wantPut(t, b, e, told{})
	wantPut(t, b, other, told{errno: api.ErrLimit})
	events, _, _ := b.Put(ending(api.Commit, 1))
	for _, own := range events {
		spoil(own)
	}
	if isSpoilt(e) || isSpoilt(other) || !event.Same(e, roomy(1)) || !event.Same(other, roomy(2)) {
		t.Error("an event that was handed in is another one")
	}
	if e.After[:3][2] != spare || e.Before[:2][1] != spare || e.Change.Schema.Columns[:3][2].Name != "spare" {
		t.Error("an event's spare room is another one")
	}
}

// R4: what is told is new memory: one event was put several times, and each time
// it is told in memory of its own.
func TestSharesNothing(t *testing.T) {
	b := txbuf.New(3)
	e := roomy(1)
	wantPut(t, b, ending(api.Begin, 1), told{})
	for range 3 {
		wantPut(t, b, e, told{})
	}
	events, _, _ := b.Put(ending(api.Commit, 1))
	if len(events) != 3 {
		t.Fatal(events)
	}
	spoil(events[1])
	for _, i := range []int{0, 2} {
		if isSpoilt(events[i]) || !event.Same(events[i], e) {
			t.Errorf("the event %d shares memory with another one", i)
		}
	}
	before := append(events[0].Before, api.Value{Text: "more"})
	if len(before) != 2 || len(events[0].After) != 2 || !event.Same(events[0], e) {
		t.Error("what is put behind a list comes to another one")
	}
}

// R4: what was told is the asker's: neither is it changed by what is put behind
// it, nor does what is done to it come back.
func TestTellsNewMemory(t *testing.T) {
	b := txbuf.New(4)
	var first []api.Event
	for n := range 4 {
		held := []api.Event{roomy(n), roomy(n + 1)}
		wantPut(t, b, ending(api.Begin, n), told{})
		for _, e := range held {
			wantPut(t, b, e, told{})
		}
		events, stands, errno := b.Put(ending(api.Commit, n))
		if !same(events, held) || !stands || errno != api.OK {
			t.Fatal(events, stands, errno)
		}
		if n == 0 {
			first = events
			continue
		}
		for i, e := range events[:cap(events)] {
			spoil(e)
			events[:cap(events)][i] = api.Event{Kind: 66}
		}
		if !same(first, []api.Event{roomy(0), roomy(1)}) {
			t.Fatal("what was told first is another one:", first)
		}
	}
}

// R4: nil and empty lists are one.
func TestEmptyLists(t *testing.T) {
	none := row(api.Insert, 1)
	none.After = nil
	empty := none
	empty.Before, empty.After = api.Row{}, api.Row{}
	empty.Change.Schema.Columns = []api.Column{}
	for _, e := range []api.Event{none, empty} {
		b := txbuf.New(1)
		wantPut(t, b, ending(api.Begin, 1), told{})
		wantPut(t, b, e, told{})
		wantEnd(t, b, api.Commit, 1, []api.Event{none})
	}
}
