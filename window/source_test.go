package window_test

import (
	"math/rand/v2"
	"testing"

	"pantograph/api"
	"pantograph/binlog"
	"pantograph/schema"
	"pantograph/source"
	"pantograph/window"
)

// P13.4: a window that takes all changes from a time on that is earlier than its
// rows has the table's rows, within it, whatever was done between these times and
// behind them.
func TestIsTheTable(t *testing.T) {
	r := rand.New(rand.NewPCG(13, 4))
	whole, spoiled := 0, 0
	for range 400 {
		s := source.New()
		create(t, s, "t")
		create(t, s, "u")
		change(t, r, s, 30)
		low := s.Size()
		change(t, r, s, r.IntN(6))
		size, behind := 1+r.IntN(12), behindWhat(r)
		selected, errno := s.Some("t", behind, size)
		if errno != api.OK {
			t.Fatal(errno)
		}
		w := window.New(size)
		if errno := w.Open(3, table("t"), behind, selected); errno != api.OK {
			t.Fatal(errno)
		}
		change(t, r, s, r.IntN(12))
		takeFrom(t, w, s, low)
		within := inWindow(t, s, behind, size, selected)
		if w.Spoiled() {
			spoiled++
			continue
		}
		whole++
		if !same(w.Rows(), within) {
			t.Fatalf("%v, not %v", w.Rows(), within)
		}
	}
	if whole < 100 || spoiled < 20 {
		t.Errorf("%d windows were whole, %d spoiled: too few to tell", whole, spoiled)
	}
}

// P13.4: a window is spoiled only by more rows than its size, or by a change of
// the table: with rows that come and go one in place of the other it never is.
func TestStaysWhole(t *testing.T) {
	s := source.New()
	create(t, s, "t")
	for n := range 10 {
		do(t, s, deed(api.DoInsert, n, "x"))
	}
	low := s.Size()
	selected, _ := s.Some("t", key(2), 4)
	w := window.New(4)
	if errno := w.Open(3, table("t"), key(2), selected); errno != api.OK {
		t.Fatal(errno)
	}
	for n := range 10 {
		do(t, s, deed(api.DoDelete, n, ""), deed(api.DoInsert, n, "y"), deed(api.DoUpdate, n, "z"))
	}
	takeFrom(t, w, s, low)
	wantShut(t, w, shut{[]api.Row{row(3, "z"), row(4, "z"), row(5, "z"), row(6, "z")}, upTo(6), true, api.OK}, 3)
}

// create makes a table of people.
func create(t *testing.T, s *source.Source, name string) {
	t.Helper()
	if errno := s.Alter(api.Change{Kind: api.Create, Table: name, Schema: people()}); errno != api.OK {
		t.Fatal(errno)
	}
}

// deed is one of t.
func deed(kind, n int, name string) api.Deed {
	if kind == api.DoDelete {
		return api.Deed{Kind: kind, Table: "t", Row: api.Row{id(n)}}
	}
	return api.Deed{Kind: kind, Table: "t", Row: row(n, name)}
}

// do does a transaction.
func do(t *testing.T, s *source.Source, l ...api.Deed) {
	t.Helper()
	if errno := s.Do(l); errno != api.OK {
		t.Fatal(errno)
	}
}

// change does transactions by chance, of t and u alike; what can't be done is not.
func change(t *testing.T, r *rand.Rand, s *source.Source, many int) {
	t.Helper()
	for range many {
		d := deed(api.DoInsert+r.IntN(3), r.IntN(30), string(rune('a'+r.IntN(26))))
		if r.IntN(5) == 0 {
			d.Table = "u"
		}
		s.Do([]api.Deed{d})
	}
}

// behindWhat is a key, or the empty text, by chance.
func behindWhat(r *rand.Rand) string {
	if r.IntN(3) == 0 {
		return ""
	}
	return key(r.IntN(30))
}

// takeFrom has a window take all rows' events of a log from a place on.
func takeFrom(t *testing.T, w *window.Window, s *source.Source, at int) {
	t.Helper()
	scan := binlog.Scan(s.Log(), at, s.Tables())
	for {
		e, errno := scan.Next()
		if errno == api.ErrNone {
			return
		}
		if errno != api.OK {
			t.Fatal(errno)
		}
		if errno := w.Take(e); errno != api.OK {
			t.Fatalf("Take of %v: %v", e, errno)
		}
	}
}

// inWindow is the source's rows that are in a window by the chapter's words.
func inWindow(t *testing.T, s *source.Source, behind string, size int, selected []api.Row) []api.Row {
	t.Helper()
	var within []api.Row
	for _, r := range s.Rows("t") {
		k := keyOf(t, r)
		if k > behind && (len(selected) < size || k <= keyOf(t, selected[len(selected)-1])) {
			within = append(within, r)
		}
	}
	return within
}

// keyOf is a row's key.
func keyOf(t *testing.T, r api.Row) string {
	t.Helper()
	k, errno := schema.Key(people(), r)
	if errno != api.OK {
		t.Fatal(errno)
	}
	return k
}
