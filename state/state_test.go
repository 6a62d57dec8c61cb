package state_test

import (
	"fmt"
	"math"
	"slices"
	"testing"

	"pantograph/api"
	"pantograph/schema"
	"pantograph/state"
)

// P15.1, P15.2: a new one has nothing.
func TestNew(t *testing.T) {
	s := state.New()
	wantSame(t, s, &paper{})
	if len(s.Tables()) > 0 || s.Len() != 0 || string(s.Bytes()) != "\x00\x00\x00\x00\x00" {
		t.Errorf("%v, %d, %q", s.Tables(), s.Len(), s.Bytes())
	}
	for _, table := range []string{"", "a", long()} {
		if l := s.Rows(table); len(l) > 0 {
			t.Errorf("Rows of %q: %v", table, l)
		}
		wantRow(t, s, table, nil, nil)
		wantRow(t, s, table, []api.Value{whole(1)}, nil)
	}
	// One that was told something leaves the next one as it is.
	some(t)
	wantSame(t, state.New(), &paper{})
}

// P15.1: a row that is put stands at its key, whatever stood there; one that is
// off does not, whether one stood there or not.
func TestPutOff(t *testing.T) {
	s, p := state.New(), &paper{}
	one, ada := []api.Value{whole(1)}, put("pair", whole(1), text("Ada"))
	wantApply(t, s, p, []api.Write{create("pair", pair())}, api.Point{})
	wantApply(t, s, p, []api.Write{off("pair", whole(1))}, api.Point{})
	wantRow(t, s, "pair", one, nil)
	wantApply(t, s, p, []api.Write{ada}, api.Point{})
	wantRow(t, s, "pair", one, ada.Row)
	wantApply(t, s, p, []api.Write{ada, put("pair", whole(2), null())}, api.Point{})
	wantApply(t, s, p, []api.Write{put("pair", whole(1), null())}, api.Point{})
	wantRow(t, s, "pair", one, api.Row{whole(1), null()})
	wantApply(t, s, p, []api.Write{off("pair", whole(3)), off("pair", whole(1))}, api.Point{})
	wantRow(t, s, "pair", one, nil)
	wantRow(t, s, "pair", []api.Value{whole(2)}, api.Row{whole(2), null()})
	// In one group they are done in order, too.
	wantApply(t, s, p, []api.Write{ada, off("pair", whole(1))}, api.Point{})
	wantRow(t, s, "pair", one, nil)
	wantApply(t, s, p, []api.Write{off("pair", whole(1)), put("pair", whole(1), null()), ada}, api.Point{})
	wantRow(t, s, "pair", one, ada.Row)
	wantApply(t, s, p, []api.Write{off("pair", whole(1)), off("pair", whole(2)), off("pair", whole(1))}, api.Point{})
	if s.Len() != 0 || len(s.Rows("pair")) > 0 {
		t.Error(s.Len(), s.Rows("pair"))
	}
}

// P15.1: rows of another table, or at another key, stay.
func TestTablesApart(t *testing.T) {
	s, p := some(t)
	wantApply(t, s, p, []api.Write{put("pair", whole(0), text("x")), off("pairs", whole(7)), off("people", text("a"), whole(2))}, points()[1])
	wantRow(t, s, "pair", []api.Value{whole(7)}, api.Row{whole(7), null()})
	wantRow(t, s, "pairs", []api.Value{whole(7)}, nil)
	wantRow(t, s, "people", []api.Value{text("a"), whole(-2)}, api.Row{text("a"), whole(-2), flag(0), text(""), blob("")})
	wantApply(t, s, p, []api.Write{drop("pair")}, points()[1])
	wantRow(t, s, "pairs", []api.Value{whole(0)}, api.Row{whole(0)})
	wantRow(t, s, long(), []api.Value{whole(1)}, api.Row{whole(1), text("z")})
}

// P15.1: the tables follow each kind of changes, and the rows are turned.
func TestTurns(t *testing.T) {
	n, x, y := null(), text("x"), blob("y")
	ahead := []api.Write{create("t", of(1, must("id", api.Int), must("own", api.Text), may("name", api.Bytes))), put("t", whole(7), x, n), put("t", whole(-2), x, y), put("t", whole(1), x, y)}
	for _, c := range []struct {
		turn api.Write
		want api.Schema
		rows []api.Row
	}{
		{add("t", may("bit", api.Bool)), of(1, must("id", api.Int), must("own", api.Text), may("name", api.Bytes), may("bit", api.Bool)), []api.Row{{whole(-2), x, y, n}, {whole(1), x, y, n}, {whole(7), x, n, n}}},
		{cut("t", "own"), of(1, must("id", api.Int), may("name", api.Bytes)), []api.Row{{whole(-2), y}, {whole(1), y}, {whole(7), n}}},
		{cut("t", "name"), of(1, must("id", api.Int), must("own", api.Text)), []api.Row{{whole(-2), x}, {whole(1), x}, {whole(7), x}}},
		{retype("t", may("name", api.Int)), of(1, must("id", api.Int), must("own", api.Text), may("name", api.Int)), []api.Row{{whole(-2), x, n}, {whole(1), x, n}, {whole(7), x, n}}},
		{retype("t", must("name", api.Bytes)), of(1, must("id", api.Int), must("own", api.Text), may("name", api.Bytes)), []api.Row{{whole(-2), x, n}, {whole(1), x, n}, {whole(7), x, n}}},
		{drop("t"), api.Schema{}, nil},
	} {
		want := []api.Table{{Name: "t", Schema: c.want}}
		if c.turn.Change.Kind == api.Drop {
			want = nil
		}
		// In a group of its own, and in one with what comes ahead.
		s, q := state.New(), state.New()
		p := &paper{}
		wantApply(t, s, p, ahead, api.Point{})
		wantApply(t, s, p, []api.Write{c.turn}, api.Point{})
		wantApply(t, q, &paper{}, append(slices.Clone(ahead), c.turn), api.Point{})
		for _, s := range []*state.State{s, q} {
			if l := s.Tables(); !slices.EqualFunc(l, want, sameTable) || !sameRows(s.Rows("t"), c.rows) || s.Len() != len(c.rows) {
				t.Errorf("behind %v: %v, %v", c.turn.Change, l, s.Rows("t"))
			}
		}
	}
}

// P15.1: writes go by the tables that there are then, and rows are turned as they
// are then.
func TestTurnsBetween(t *testing.T) {
	s, p := some(t)
	wantApply(t, s, p, []api.Write{
		put("pair", whole(1), text("gone")), cut("pair", "name"), put("pair", whole(2)), add("pair", may("name", api.Bool)), put("pair", whole(3), flag(1)),
		off("pair", whole(7)), retype("pair", must("name", api.Int)), put("pair", whole(-3), whole(4)), add("pair", may("x", api.Int)), put("pair", whole(9), whole(5), whole(6)),
	}, points()[2])
	n := null()
	want := []api.Row{{whole(-3), whole(4), n}, {whole(1), n, n}, {whole(2), n, n}, {whole(3), n, n}, {whole(9), whole(5), whole(6)}, {whole(150), n, n}}
	if l := s.Rows("pair"); !sameRows(l, want) {
		t.Errorf("%v, not %v", l, want)
	}
	// A table that comes again has none of the rows that it had, be it in one group
	// or in several.
	wantApply(t, s, p, []api.Write{drop("pair"), create("pair", single()), put("pair", whole(5))}, points()[2])
	if l := s.Rows("pair"); !sameRows(l, []api.Row{{whole(5)}}) {
		t.Error(l)
	}
	wantApply(t, s, p, []api.Write{drop("people")}, points()[2])
	wantApply(t, s, p, []api.Write{create("people", people())}, points()[2])
	if l := s.Rows("people"); len(l) > 0 {
		t.Error(l)
	}
	wantRow(t, s, "people", []api.Value{text("a"), whole(2)}, nil)
	// A table that comes and goes within a group leaves nothing.
	wantApply(t, s, p, []api.Write{create("b", pair()), put("b", whole(1), n), drop("b")}, points()[2])
	wantRow(t, s, "b", []api.Value{whole(1)}, nil)
}

// P15.1: the point is the last one that was handed in, whatever stood there, also
// beside no writes, and one of tables that are not there.
func TestPoint(t *testing.T) {
	s, p := state.New(), &paper{}
	for _, point := range append(points(), points()...) {
		for _, writes := range [][]api.Write{nil, {}, {create("t", single()), drop("t")}} {
			wantApply(t, s, p, writes, point)
		}
	}
	wantApply(t, s, p, nil, api.Point{At: math.MaxInt, Many: math.MaxInt, Chunk: math.MaxInt})
	wantApply(t, s, p, nil, api.Point{})
}

// wrongWrites is writes that may not be by the tables of someWrites, and why.
func wrongWrites() []struct {
	write api.Write
	errno api.Errno
} {
	more := func(w api.Write, does func(*api.Write)) api.Write {
		does(&w)
		return w
	}
	return []struct {
		write api.Write
		errno api.Errno
	}{
		{api.Write{}, api.ErrKind},
		{api.Write{Kind: 4, Table: "pair", Row: api.Row{whole(1), null()}}, api.ErrKind},
		{api.Write{Kind: -1}, api.ErrKind},
		{turn(api.Change{}), api.ErrKind},
		{turn(api.Change{Kind: 6, Table: "pair"}), api.ErrKind},
		{put("", whole(1)), api.ErrNone},
		{put("none", whole(1)), api.ErrNone},
		{off("peopl", whole(1)), api.ErrNone},
		{put("pair"), api.ErrRow},
		{put("pair", whole(1)), api.ErrRow},
		{put("pair", null(), null()), api.ErrRow},
		{put("pair", text("1"), null()), api.ErrRow},
		{put("pair", whole(1), whole(1)), api.ErrRow},
		{put("pair", whole(1), text("\xff")), api.ErrRow},
		{put("pair", whole(1), null(), null()), api.ErrRow},
		{off("pair"), api.ErrRow},
		{off("pair", null()), api.ErrRow},
		{off("pair", whole(7), null()), api.ErrRow},
		{off("people", text("a")), api.ErrRow},
		{off("people", whole(2), text("a")), api.ErrRow},
		{more(put("pair", whole(1), null()), func(w *api.Write) { w.Change.Kind = api.Drop }), api.ErrArg},
		{more(off("pair", whole(7)), func(w *api.Write) { w.Change.Table = "pair" }), api.ErrArg},
		{more(drop("pair"), func(w *api.Write) { w.Table = "pair" }), api.ErrArg},
		{more(drop("pair"), func(w *api.Write) { w.Row = api.Row{whole(7)} }), api.ErrArg},
		{create("B", pair()), api.ErrArg},
		{create("b", api.Schema{}), api.ErrArg},
		{add("pair", must("x", api.Int)), api.ErrArg},
		{create("pair", pair()), api.ErrExist},
		{add("pair", may("name", api.Int)), api.ErrExist},
		{drop("none"), api.ErrNone},
		{add("none", may("x", api.Int)), api.ErrNone},
		{cut("pair", "x"), api.ErrNone},
		{retype("pair", may("x", api.Int)), api.ErrNone},
		{cut("pair", "id"), api.ErrSchema},
		{retype("people", may("id", api.Text)), api.ErrSchema},
		{retype("people", may("old", api.Int)), api.ErrSchema},
	}
}

// P15.1: where a write may not be, nothing is done, neither what comes ahead of
// it nor what comes behind.
func TestRefused(t *testing.T) {
	s, p := some(t)
	right := []api.Write{
		put("pair", whole(8), null()), put("pair", whole(7), text("other")), off("pairs", whole(0)), create("b", pair()), put("b", whole(1), null()), drop("b"),
		add("people", may("z", api.Int)), cut("people", "face"), retype(long(), may("name", api.Int)),
	}
	for _, c := range wrongWrites() {
		wantRefused(t, s, p, c.errno, points()[2], c.write)
		for i := range len(right) + 1 {
			wantRefused(t, s, p, c.errno, points()[2], slices.Insert(slices.Clone(right), i, c.write)...)
		}
		// The first one tells.
		wantRefused(t, s, p, c.errno, points()[2], c.write, api.Write{})
		wantRefused(t, s, p, api.ErrNone, points()[2], put("none"), c.write)
	}
	for _, point := range wrongPoints() {
		wantRefused(t, s, p, api.ErrArg, point)
		wantRefused(t, s, p, api.ErrArg, point, right...)
		// That the point may not be is told ahead of all writes.
		wantRefused(t, s, p, api.ErrArg, point, put("none"))
	}
	// What may not be by the tables that there are then.
	wantRefused(t, s, p, api.ErrNone, points()[2], drop("pair"), put("pair", whole(1), null()))
	wantRefused(t, s, p, api.ErrRow, points()[2], cut("pair", "name"), put("pair", whole(1), null()))
	wantRefused(t, s, p, api.ErrExist, points()[2], create("b", pair()), create("b", pair()))
	// The state goes on as if none of these had been told.
	wantApply(t, s, p, right, points()[2])
}

// P15.1: as many tables and columns as may be, and one more.
func TestLimits(t *testing.T) {
	s, p := state.New(), &paper{}
	var writes []api.Write
	for i := range api.MaxTables {
		writes = append(writes, create(fmt.Sprintf("t%02d", i*37%api.MaxTables), single()))
	}
	wantApply(t, s, p, writes, api.Point{})
	wantRefused(t, s, p, api.ErrLimit, api.Point{At: 1}, put("t00", whole(1)), create("u", single()))
	wantApply(t, s, p, []api.Write{drop("t63"), create("u", single())}, api.Point{At: 1})
	wantRefused(t, s, p, api.ErrLimit, api.Point{}, create("a", single()))
	writes = []api.Write{put("u", whole(1))}
	for i := range api.MaxColumns - 1 {
		writes = append(writes, add("u", may(fmt.Sprintf("c%02d", i), api.Int)))
	}
	wantRefused(t, s, p, api.ErrSchema, api.Point{}, append(slices.Clone(writes), add("u", may("x", api.Int)))...)
	wantApply(t, s, p, writes, api.Point{At: 2})
	if l := s.Rows("u"); len(l) != 1 || len(l[0]) != api.MaxColumns {
		t.Error(l)
	}
}

// P15.2: rows are told as their keys rise, tables as their names rise.
func TestOrder(t *testing.T) {
	ints := []api.Row{{whole(math.MinInt)}, {whole(-256)}, {whole(-1)}, {whole(0)}, {whole(1)}, {whole(255)}, {whole(256)}, {whole(math.MaxInt)}}
	two := of(2, must("s", api.Text), must("b", api.Bool), may("x", api.Bytes))
	pairs := []api.Row{{text(""), flag(0), blob("z")}, {text(""), flag(1), null()}, {text("\x00"), flag(0), blob("z")}, {text("a"), flag(0), null()}, {text("a"), flag(1), blob("z")}, {text("a\x00"), flag(0), blob("z")}, {text("a\x01"), flag(0), null()}, {text("aa"), flag(0), blob("z")}, {text("b"), flag(1), null()}, {text("é"), flag(0), null()}}
	for _, step := range []int{1, 3, 7, 9} {
		s, p := state.New(), &paper{}
		writes := []api.Write{create("ints", single()), create("b", two)}
		for i := range pairs {
			writes = append(writes, put("b", pairs[(i*step+step)%len(pairs)]...))
			if i < len(ints) {
				writes = append(writes, put("ints", ints[(i*step+step)%len(ints)]...))
			}
		}
		for _, name := range []string{"i", "ints_", "a_", "a0", "ab", "a"} {
			writes = append(writes, create(name, single()))
		}
		wantApply(t, s, p, writes, api.Point{})
		if l, m := s.Rows("ints"), s.Rows("b"); !sameRows(l, ints) || !sameRows(m, pairs) || s.Len() != len(ints)+len(pairs) {
			t.Errorf("Rows: %v, %v; Len %d", l, m, s.Len())
		}
		var names []string
		for _, table := range s.Tables() {
			names = append(names, table.Name)
		}
		if want := []string{"a", "a0", "a_", "ab", "b", "i", "ints", "ints_"}; !slices.Equal(names, want) {
			t.Errorf("Tables: %v", names)
		}
	}
}

// P15.2: of tables that are not there, and at texts that are no key of a row,
// nothing is told.
func TestNone(t *testing.T) {
	s, p := some(t)
	key, _ := schema.Key(single(), api.Row{whole(7)})
	for _, table := range []string{"", "pai", "pairt", "Pair", "pair ", "b", long() + "z"} {
		if l := s.Rows(table); len(l) > 0 {
			t.Errorf("Rows of %q: %v", table, l)
		}
		if row, ok := s.Get(table, key); ok || len(row) > 0 {
			t.Errorf("Get of %q: %v", table, row)
		}
	}
	if row, ok := s.Get("pair", key); !ok || !sameRow(row, api.Row{whole(7), null()}) {
		t.Errorf("Get: %v, %t", row, ok)
	}
	for _, key := range []string{"", "\x00", key[:8], key + "\x00", key + key, "\xff"} {
		for _, table := range []string{"pair", "people", "a"} {
			if row, ok := s.Get(table, key); ok || len(row) > 0 {
				t.Errorf("Get of %s at %q: %v", table, key, row)
			}
		}
	}
	// There is a table without rows, too.
	if l := s.Rows("a"); len(l) > 0 {
		t.Errorf("Rows: %v", l)
	}
	wantSame(t, s, p)
}
