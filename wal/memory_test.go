package wal_test

import (
	"bytes"
	"slices"
	"testing"

	"pantograph/api"
	"pantograph/chunk"
	"pantograph/wal"
)

// roomyTables is tables with spare room, at every depth.
func roomyTables() []api.Table {
	l := slices.Grow(some(), 3)
	for i := range l {
		l[i].Schema.Columns = roomy(l[i].Schema.Columns)
	}
	return l
}

// roomyWrites is writes that may be, by some, with spare room, at every depth.
func roomyWrites() []api.Write {
	l := slices.Grow(plainWrites(), 3)
	for i := range l {
		l[i].Row = roomy(l[i].Row)
		l[i].Change.Schema.Columns = roomy(l[i].Change.Schema.Columns)
	}
	return l
}

func plainWrites() []api.Write {
	return []api.Write{put("pair", whole(1), text("a")), off("pair", whole(1)), create("a", people()), create("b", pair()), add("pair", may("x", api.Int)), drop("pairs")}
}

func behindPlain() []api.Table {
	longer := of(1, must("id", api.Int), may("name", api.Text), may("x", api.Int))
	return []api.Table{{Name: "a", Schema: people()}, {Name: "b", Schema: pair()}, {Name: "pair", Schema: longer}, some()[2], some()[3]}
}

// roomy is a list with spare room, which is zero.
func roomy[L ~[]T, T any](l L) L {
	out := make(L, len(l), len(l)+4)
	copy(out, l)
	return out
}

// overwrite writes over a list, its spare room too.
func overwrite[L ~[]T, T any](l L, with T) {
	all := l[:cap(l)]
	for i := range all {
		all[i] = with
	}
}

func overwriteTables(l []api.Table) {
	for _, t := range l {
		overwrite(t.Schema.Columns, api.Column{Name: "overwritten", Kind: 66})
	}
	overwrite(l, api.Table{Name: "overwritten"})
}

func overwriteWrites(l []api.Write) {
	for _, w := range l {
		overwrite(w.Row, api.Value{Kind: api.Bytes, Number: 66, Text: "overwritten"})
		overwrite(w.Change.Schema.Columns, api.Column{Name: "overwritten", Kind: 66})
	}
	overwrite(l, api.Write{Kind: 66, Table: "overwritten"})
}

func overwritePoint(p api.Point) { overwrite(p.Works, api.Work{Table: "overwritten"}) }

// wantUntouched checks that tables and writes are as they were, their spare room
// zero.
func wantUntouched(t *testing.T, l []api.Table, writes []api.Write) {
	t.Helper()
	if !slices.EqualFunc(l, some(), sameTable) || !slices.EqualFunc(writes, plainWrites(), equal) {
		t.Fatalf("what was handed in is changed: %s, %s", brief(l), brief(writes))
	}
	spare := slices.ContainsFunc(l[len(l):cap(l)], func(t api.Table) bool { return !sameTable(t, api.Table{}) }) ||
		slices.ContainsFunc(writes[len(writes):cap(writes)], func(w api.Write) bool { return !equal(w, api.Write{}) })
	for _, own := range l {
		c := own.Schema.Columns
		spare = spare || slices.ContainsFunc(c[len(c):cap(c)], func(c api.Column) bool { return c != api.Column{} })
	}
	for _, w := range writes {
		c := w.Change.Schema.Columns
		spare = spare || slices.ContainsFunc(w.Row[len(w.Row):cap(w.Row)], func(v api.Value) bool { return v != api.Value{} }) ||
			slices.ContainsFunc(c[len(c):cap(c)], func(c api.Column) bool { return c != api.Column{} })
	}
	if spare {
		t.Fatal("spare room is changed")
	}
}

// R4, R5: what was handed in is not changed, its spare room neither, and all is
// told the same a second time.
func TestChangesNothing(t *testing.T) {
	l, writes := roomyTables(), roomyWrites()
	p := points()[3]
	p.Works = roomy(p.Works)
	for range 2 {
		wantBehind(t, l, writes, behindPlain(), api.OK)
		wantBehind(t, l, writes[:2], some(), api.OK)
		b := roomy(wantGroup(t, l, writes, p))
		was := bytes.Clone(b[:cap(b)])
		wantRead(t, l, b, writes, p)
		if !bytes.Equal(b[:cap(b)], was) {
			t.Fatal("the bytes that were handed in are changed")
		}
		wal.Same(writes, roomyWrites())
		wantUntouched(t, l, writes)
		wrong := append(slices.Clone(writes), put("pair"))
		wantRefused(t, l, api.ErrRow, wrong...)
		wantUntouched(t, l, writes)
	}
	if !chunk.Same(p, points()[3]) || slices.ContainsFunc(p.Works[len(p.Works):cap(p.Works)], func(w api.Work) bool { return w != api.Work{} }) {
		t.Error("the point is changed")
	}
}

// R4: what is answered hangs no more on what was handed in, nor that on it.
func TestBehindIsNew(t *testing.T) {
	for _, n := range []int{0, 2, 6} {
		l, writes := roomyTables(), roomyWrites()
		want := some()
		if n == 6 {
			want = behindPlain()
		}
		first, _ := wal.Behind(l, writes[:n])
		second, _ := wal.Behind(l, writes[:n])
		overwriteTables(first)
		wantUntouched(t, l, writes)
		if !slices.EqualFunc(second, want, sameTable) {
			t.Fatal("two answers share memory:", brief(second))
		}
		overwriteTables(l)
		overwriteWrites(writes)
		if !slices.EqualFunc(second, want, sameTable) {
			t.Fatal("an answer hangs on what was handed in:", brief(second))
		}
		for i := range second {
			second[i].Schema.Columns = append(second[i].Schema.Columns, may("more", api.Int))
			overwrite(second[i].Schema.Columns, may("more", api.Int))
			if !slices.EqualFunc(second[i+1:], want[i+1:], sameTable) {
				t.Fatal("two lists of one answer share memory:", brief(second))
			}
		}
	}
}

// R4: bytes that are answered are new, and what is read hangs on bytes and tables
// no more.
func TestBytesAreNew(t *testing.T) {
	l, writes, p := roomyTables(), roomyWrites(), points()[3]
	first, _ := wal.Write(l, writes, p)
	b, _ := wal.Write(l, writes, p)
	overwrite(first, 66)
	wantUntouched(t, l, writes)
	b = roomy(b)
	got, at, _ := wal.Read(l, b)
	again, atAgain, _ := wal.Read(l, b)
	overwriteWrites(again)
	overwritePoint(atAgain)
	wantRead(t, l, b, writes, p)
	overwrite(b, 66)
	overwriteTables(l)
	overwriteWrites(writes)
	if !slices.EqualFunc(got, plainWrites(), equal) || !chunk.Same(at, points()[3]) {
		t.Fatal("what was read hangs on what was handed in, or told:", brief(got), brief(at))
	}
	for i := range got {
		got[i].Row = append(got[i].Row, null())
		overwrite(got[i].Row, flag(1))
		got[i].Change.Schema.Columns = append(got[i].Change.Schema.Columns, may("more", api.Int))
		overwrite(got[i].Change.Schema.Columns, may("more", api.Int))
		if !slices.EqualFunc(got[i+1:], plainWrites()[i+1:], equal) {
			t.Fatal("two lists of one answer share memory:", brief(got))
		}
	}
}

// R4: the write of an event hangs on it no more, nor it on the write.
func TestOfIsNew(t *testing.T) {
	for _, kind := range []int{api.Insert, api.Update, api.Delete, api.Alter} {
		e := full(kind)
		e.Before, e.After, e.Change.Schema.Columns = roomy(e.Before), roomy(e.After), roomy(e.Change.Schema.Columns)
		w, _ := wal.Of(e)
		other, _ := wal.Of(e)
		overwriteWrites([]api.Write{other})
		want, _ := wal.Of(full(kind))
		if again, _ := wal.Of(e); !equal(again, want) {
			t.Errorf("the event of the kind %d is changed", kind)
		}
		overwrite(e.Before, flag(1))
		overwrite(e.After, flag(1))
		overwrite(e.Change.Schema.Columns, may("more", api.Int))
		if !equal(w, want) {
			t.Errorf("the write of the kind %d hangs on its event: %v", kind, w)
		}
	}
}

// R4: nil and empty lists are one.
func TestEmptyLists(t *testing.T) {
	for _, none := range []api.Row{nil, {}} {
		for _, columns := range [][]api.Column{nil, {}} {
			w, d := put("pair", whole(1), null()), drop("pair")
			w.Change.Schema.Columns, d.Change.Schema.Columns, d.Row = columns, columns, none
			wantBehind(t, some(), []api.Write{w, d}, some()[1:], api.OK)
			b := wantGroup(t, some(), []api.Write{w, d}, api.Point{Works: []api.Work{}})
			wantRead(t, some(), b, []api.Write{put("pair", whole(1), null()), drop("pair")}, api.Point{})
			wantRefused(t, some(), api.ErrRow, api.Write{Kind: api.Put, Table: "pair", Row: none})
			wantRefused(t, some(), api.ErrRow, api.Write{Kind: api.Off, Table: "pair", Row: none})
			e, ok := wal.Of(api.Event{Kind: api.Delete, Table: "pair", Before: none, Change: api.Change{Schema: api.Schema{Columns: columns}}})
			if !ok || !wal.Same([]api.Write{e}, []api.Write{off("pair")}) {
				t.Error(e)
			}
		}
	}
	for _, l := range [][]api.Table{nil, {}} {
		wantGroup(t, l, nil, api.Point{})
		wantGroup(t, l, []api.Write{}, api.Point{})
		wantForm(t, l, nil)
		wantForm(t, l, []byte{})
		wantForm(t, some(), nil)
	}
}
