package state_test

import (
	"bytes"
	"slices"
	"testing"

	"pantograph/api"
	"pantograph/chunk"
	"pantograph/state"
	"pantograph/wal"
)

// roomy is a list with spare room, which is zero.
func roomy[L ~[]T, T any](l L) L {
	out := make(L, len(l), len(l)+4)
	copy(out, l)
	return out
}

// overwrite writes over a list, its spare room too.
func overwrite[L ~[]T, T any](l L, with T) {
	all := l[:cap(l)]
	for i := range all {
		all[i] = with
	}
}

func overwriteWrites(l []api.Write) {
	for _, w := range l {
		overwrite(w.Row, whole(66))
		overwrite(w.Change.Schema.Columns, may("overwritten", api.Bool))
	}
	overwrite(l, put("overwritten", whole(66)))
}

// roomyWrites is someWrites with spare room, at every depth.
func roomyWrites() []api.Write {
	l := roomy(someWrites())
	for i := range l {
		l[i].Row = roomy(l[i].Row)
		l[i].Change.Schema.Columns = roomy(l[i].Change.Schema.Columns)
	}
	return l
}

func roomyPoint() api.Point {
	p := points()[0]
	p.Works = roomy(p.Works)
	return p
}

// wantZero checks that a list's spare room is zero.
func wantZero[L ~[]T, T comparable](t *testing.T, l L) {
	t.Helper()
	var zero T
	if slices.ContainsFunc(l[len(l):cap(l)], func(v T) bool { return v != zero }) {
		t.Fatal("spare room is changed:", l[:cap(l)])
	}
}

// R4: what is handed in is not changed, its spare room neither.
func TestChangesNothing(t *testing.T) {
	writes, point := roomyWrites(), roomyPoint()
	s, p := state.New(), &paper{}
	wantApply(t, s, p, writes, point)
	if s.Apply(writes, point) != api.ErrExist || s.Apply(writes, api.Point{At: -1, Works: point.Works}) != api.ErrArg {
		t.Fatal("it may be done")
	}
	wantApply(t, s, p, []api.Write{cut("people", "face"), cut("pair", "name"), drop("pairs")}, point)
	if !wal.Same(writes, someWrites()) || !chunk.Same(point, points()[0]) {
		t.Fatalf("what was handed in is changed: %s, %v", brief(writes), point)
	}
	wantZero(t, point.Works)
	for _, w := range writes {
		wantZero(t, w.Row)
		wantZero(t, w.Change.Schema.Columns)
	}
	for _, w := range writes[len(writes):cap(writes)] {
		if !wal.Same([]api.Write{w}, make([]api.Write, 1)) {
			t.Fatal("spare room is changed")
		}
	}
	b := roomy(p.bytes())
	was := bytes.Clone(b)
	if e := state.New().Put(b); e != api.OK || s.Put(b) != api.ErrForm || !bytes.Equal(b, was) {
		t.Fatal("the bytes that were handed in are changed")
	}
	wantZero(t, b)
}

// R4: nothing that was handed in is kept.
func TestKeepsNothing(t *testing.T) {
	writes, point := roomyWrites(), roomyPoint()
	_, p := some(t)
	s := state.New()
	if e := s.Apply(writes, point); e != api.OK {
		t.Fatal(e)
	}
	overwriteWrites(writes)
	overwrite(point.Works, api.Work{Table: "overwritten"})
	wantSame(t, s, p)
	b := p.bytes()
	c := state.New()
	if e := c.Put(b); e != api.OK {
		t.Fatal(e)
	}
	overwrite(b, 66)
	wantSame(t, c, p)
	// Nor are writes that share one row one thing.
	row := api.Row{whole(1), text("a")}
	wantApply(t, s, p, []api.Write{create("b", pair()), create("c", pair()), put("b", row...), put("c", row...)}, points()[1])
	wantApply(t, s, p, []api.Write{retype("c", may("name", api.Int)), put("b", whole(2), null())}, points()[1])
}

// R4: nothing that is told is the state's own, nor its clone's.
func TestTellsNothingOfItsOwn(t *testing.T) {
	s, p := some(t)
	c := s.Clone()
	for _, own := range []*state.State{s, c} {
		tables := own.Tables()
		for i := range tables {
			l := append(tables[i].Schema.Columns, must("more", api.Int))
			overwrite(l, must("overwritten", api.Int))
			overwrite(tables[i].Schema.Columns, must("overwritten", api.Int))
			if i+1 < len(tables) && !sameTable(tables[i+1], p.tables()[i+1]) {
				t.Fatal("two lists of one answer share memory")
			}
		}
		overwrite(tables, api.Table{Name: "overwritten"})
		for name, g := range p.pages {
			rows := own.Rows(name)
			for i := range rows {
				overwrite(append(rows[i], whole(66)), whole(66))
				overwrite(rows[i], whole(66))
				if i+1 < len(rows) && !sameRow(rows[i+1], g.rows[i+1]) {
					t.Fatal("two lists of one answer share memory")
				}
			}
			overwrite(rows, api.Row{whole(66)})
		}
		overwrite(own.Point().Works, api.Work{Table: "overwritten"})
		overwrite(own.Bytes(), 66)
		row, ok := own.Get("pair", "\x02\x80\x00\x00\x00\x00\x00\x00\x07")
		if !ok {
			t.Fatal("no row")
		}
		overwrite(append(row, whole(66)), whole(66))
		overwrite(row, whole(66))
		wantSame(t, s, p)
		wantSame(t, c, p)
	}
}

// R4: what was told stays as it was, whatever becomes of the state.
func TestStays(t *testing.T) {
	s, p := some(t)
	tables, rows, point, b := s.Tables(), s.Rows("pair"), s.Point(), s.Bytes()
	row, _ := s.Get("pair", "\x02\x80\x00\x00\x00\x00\x00\x00\x07")
	was := p.clone()
	wantApply(t, s, p, []api.Write{put("pair", whole(7), text("other")), cut("pair", "name"), off("pair", whole(-3)), drop("a"), add("people", may("x", api.Int))}, points()[2])
	if !slices.EqualFunc(tables, was.tables(), sameTable) || !sameRows(rows, was.pages["pair"].rows) || !chunk.Same(point, was.point) || !bytes.Equal(b, was.bytes()) || !sameRow(row, api.Row{whole(7), null()}) {
		t.Error("what was told is changed:", tables, rows, point, b, row)
	}
}

// R4: nil and empty lists are one.
func TestEmptyLists(t *testing.T) {
	s, p := some(t)
	for _, none := range []api.Row{nil, {}} {
		for _, columns := range [][]api.Column{nil, {}} {
			for _, works := range [][]api.Work{nil, {}} {
				w, d := put("pair", whole(1), null()), drop("pair")
				w.Change.Schema.Columns, d.Change.Schema.Columns, d.Row = columns, columns, none
				point := api.Point{At: 5, Works: works}
				wantApply(t, s, p, []api.Write{w, d, create("pair", pair())}, point)
				wantRefused(t, s, p, api.ErrRow, point, api.Write{Kind: api.Put, Table: "pair", Row: none})
				wantRefused(t, s, p, api.ErrRow, point, api.Write{Kind: api.Off, Table: "pair", Row: none})
			}
		}
	}
	for _, b := range [][]byte{nil, {}} {
		wantForm(t, s, p, b)
	}
}
