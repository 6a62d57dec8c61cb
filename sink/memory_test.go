package sink_test

import (
	"slices"
	"testing"

	"pantograph/api"
	"pantograph/chunk"
	"pantograph/disk"
	"pantograph/wal"
)

// roomy is a list with spare room, which is zero.
func roomy[L ~[]T, T any](l L) L {
	out := make(L, len(l), len(l)+4)
	copy(out, l)
	return out
}

// overwrite writes over a list, its spare room too.
func overwrite[L ~[]T, T any](l L, with T) {
	all := l[:cap(l)]
	for i := range all {
		all[i] = with
	}
}

// roomyGroups is some groups with spare room, at every depth.
func roomyGroups() []group {
	all := some()
	for i, g := range all {
		g.writes, g.point.Works = roomy(g.writes), roomy(g.point.Works)
		for j, w := range g.writes {
			w.Row, w.Change.Schema.Columns = roomy(w.Row), roomy(w.Change.Schema.Columns)
			g.writes[j] = w
		}
		all[i] = g
	}
	return all
}

// wantZero checks that a list's spare room is zero.
func wantZero[L ~[]T, T comparable](t *testing.T, l L) {
	t.Helper()
	var zero T
	if slices.ContainsFunc(l[len(l):cap(l)], func(v T) bool { return v != zero }) {
		t.Fatal("spare room is changed:", l[:cap(l)])
	}
}

// wantAsHanded checks that a group is as it was, its spare room too.
func wantAsHanded(t *testing.T, g, was group) {
	t.Helper()
	if !wal.Same(g.writes, was.writes) || !chunk.Same(g.point, was.point) {
		t.Fatalf("what was handed in is changed: %v, not %v", g, was)
	}
	wantZero(t, g.point.Works)
	for _, w := range g.writes {
		wantZero(t, w.Row)
		wantZero(t, w.Change.Schema.Columns)
	}
	for _, w := range g.writes[len(g.writes):cap(g.writes)] {
		if !wal.Same([]api.Write{w}, make([]api.Write, 1)) {
			t.Fatal("spare room is changed")
		}
	}
}

// R4: what is handed in is not changed, whatever is told.
func TestChangesNothing(t *testing.T) {
	all := roomyGroups()
	d := disk.New(plenty)
	s := open(t, d)
	for i, g := range all {
		want(t, s.Commit(g.writes, g.point), api.OK)
		wantAsHanded(t, g, some()[i])
	}
	want(t, s.Compact(), api.OK)
	if e := s.Commit(all[0].writes, all[0].point); e != api.ErrExist {
		t.Fatal(e)
	}
	d.Arm(0)
	want(t, s.Commit(all[2].writes, all[2].point), api.ErrDown)
	want(t, s.Commit(all[1].writes, all[1].point), api.ErrBad)
	for i, g := range all {
		wantAsHanded(t, g, some()[i])
	}
}

// R4: nothing that was handed in is kept, by the sink or by its disk.
func TestKeepsNothing(t *testing.T) {
	all := roomyGroups()
	d := disk.New(plenty)
	s := open(t, d)
	for n, g := range all {
		want(t, s.Commit(g.writes, g.point), api.OK)
		for _, w := range g.writes {
			overwrite(w.Row, whole(66))
			overwrite(w.Change.Schema.Columns, may("overwritten", api.Bool))
		}
		overwrite(g.writes, put("overwritten", whole(66)))
		overwrite(g.point.Works, api.Work{Table: "overwritten"})
		wantSink(t, s, made(some()[:n+1]), len(log(some()[:n+1])), false)
	}
	wantFiles(t, d, "log", string(log(some())))
}

// R4: nothing that is told is the sink's own.
func TestTellsNothingOfItsOwn(t *testing.T) {
	all := some()[:5]
	d, s := told(t, plenty, all)
	has := s.State()
	for _, own := range has.Tables() {
		for _, row := range has.Rows(own.Name) {
			overwrite(row, whole(66))
		}
		overwrite(own.Schema.Columns, may("overwritten", api.Bool))
	}
	overwrite(has.Point().Works, api.Work{Table: "overwritten"})
	overwrite(has.Bytes(), 66)
	want(t, has.Apply([]api.Write{drop("t")}, api.Point{}), api.OK)
	b, _ := d.Read("log")
	overwrite(b, 66)
	wantSink(t, s, made(all), len(log(all)), false)
	want(t, s.Compact(), api.OK)
	wantSink(t, open(t, d), made(all), s.Size(), false)
}

// R4: nil and empty lists are one.
func TestEmptyLists(t *testing.T) {
	for _, writes := range [][]api.Write{nil, {}} {
		for _, works := range [][]api.Work{nil, {}} {
			d := disk.New(plenty)
			s := open(t, d)
			want(t, s.Commit(writes, api.Point{At: 5, Works: works}), api.OK)
			l := []group{{nil, api.Point{At: 5}}}
			wantSink(t, s, made(l), len(log(l)), false)
			wantFiles(t, d, "log", string(log(l)))
		}
	}
}
