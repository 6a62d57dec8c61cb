package wal_test

import (
	"math"
	"slices"
	"testing"

	"pantograph/api"
	"pantograph/wal"
)

// full is an event of a kind in which each field is set.
func full(kind int) api.Event {
	return api.Event{
		Kind: kind, Number: 7, Table: "pair", Before: api.Row{whole(1)}, After: api.Row{whole(2), text("b")},
		Change: api.Change{Kind: api.Create, Table: "t", Schema: people(), Column: may("c", api.Bytes)},
	}
}

// P14.1: of each kind of events its write, of no field more than is named.
func TestOf(t *testing.T) {
	want := map[int]api.Write{
		api.Insert: put("pair", whole(2), text("b")),
		api.Update: put("pair", whole(2), text("b")),
		api.Delete: off("pair", whole(1)),
		api.Alter:  turn(full(api.Alter).Change),
	}
	for _, kind := range []int{math.MinInt64, -1, 0, 1, 2, 3, 4, 5, 6, 7, 8, 9, 10, 11, 12, 255, 260, math.MaxInt64} {
		w, ok := wal.Of(full(kind))
		if _, tells := want[kind]; ok != tells || !equal(w, want[kind]) {
			t.Errorf("Of of the kind %d: %v, %t", kind, w, ok)
		}
		w, ok = wal.Of(api.Event{Kind: kind})
		if _, tells := want[kind]; ok != tells || !equal(w, api.Write{Kind: want[kind].Kind}) {
			t.Errorf("Of of the kind %d, of no fields: %v, %t", kind, w, ok)
		}
	}
}

// P14.1: an event that may be tells a write that may be.
func TestOfEvents(t *testing.T) {
	for _, own := range some() {
		for _, row := range rows(own.Schema) {
			key := row[:own.Schema.Keys]
			for _, c := range []struct {
				e    api.Event
				want api.Write
			}{
				{api.Event{Kind: api.Insert, Table: own.Name, After: row}, put(own.Name, row...)},
				{api.Event{Kind: api.Update, Table: own.Name, After: row}, put(own.Name, row...)},
				{api.Event{Kind: api.Delete, Table: own.Name, Before: key}, off(own.Name, key...)},
			} {
				w, ok := wal.Of(c.e)
				if !ok || !equal(w, c.want) {
					t.Fatalf("Of of %s: %s, %t", brief(c.e), brief(w), ok)
				}
				wantBehind(t, some(), []api.Write{w}, some(), api.OK)
			}
		}
	}
	for _, c := range []api.Write{create("t", people()), drop("pair"), add("pair", may("x", api.Bool)), cut("pair", "name"), retype("pair", may("name", api.Int))} {
		w, ok := wal.Of(api.Event{Kind: api.Alter, Change: c.Change})
		if !ok || !equal(w, c) {
			t.Fatalf("Of of %s: %s, %t", brief(c.Change), brief(w), ok)
		}
		if _, e := wal.Behind(some(), []api.Write{w}); e != api.OK {
			t.Fatal(brief(w), e)
		}
	}
}

// P14.1: no writes, and rows that are put or are gone, leave the tables as they
// are.
func TestBehindRows(t *testing.T) {
	for _, l := range [][]api.Table{nil, {}, some(), some()[1:], tables(1), tables(api.MaxTables)} {
		wantBehind(t, l, nil, l, api.OK)
		wantBehind(t, l, []api.Write{}, l, api.OK)
		var all []api.Write
		for _, own := range l {
			for _, row := range rows(own.Schema) {
				one := []api.Write{put(own.Name, row...), off(own.Name, row[:own.Schema.Keys]...)}
				wantBehind(t, l, one[:1], l, api.OK)
				wantBehind(t, l, one[1:], l, api.OK)
				all = append(all, one...)
			}
		}
		wantBehind(t, l, all, l, api.OK)
	}
}

// P14.1: each kind of changes is followed, and those behind it go by the tables
// that there are then.
func TestBehindTurns(t *testing.T) {
	pairIs := func(s api.Schema) []api.Table {
		l := some()
		l[0].Schema = s
		return l
	}
	longer := of(1, must("id", api.Int), may("name", api.Text), may("x", api.Bool))
	for _, c := range []struct {
		writes []api.Write
		want   []api.Table
	}{
		{[]api.Write{create("a", people())}, append([]api.Table{{Name: "a", Schema: people()}}, some()...)},
		{[]api.Write{create("paira", people())}, slices.Insert(some(), 1, api.Table{Name: "paira", Schema: people()})},
		{[]api.Write{drop("pair")}, some()[1:]},
		{[]api.Write{drop(long())}, some()[:3]},
		{[]api.Write{drop("people"), drop("pair"), drop(long()), drop("pairs")}, nil},
		{[]api.Write{add("pair", may("x", api.Bool))}, pairIs(longer)},
		{[]api.Write{cut("pair", "name")}, pairIs(single())},
		{[]api.Write{retype("pair", may("name", api.Bytes))}, pairIs(of(1, must("id", api.Int), may("name", api.Bytes)))},
		{[]api.Write{retype("pair", must("name", api.Bool))}, pairIs(of(1, must("id", api.Int), may("name", api.Bool)))},
		{[]api.Write{add("pair", may("x", api.Bool)), put("pair", whole(1), null(), flag(1))}, pairIs(longer)},
		{[]api.Write{put("pair", whole(1), null()), add("pair", may("x", api.Bool)), put("pair", whole(1), null(), null()), off("pair", whole(1))}, pairIs(longer)},
		{[]api.Write{cut("pair", "name"), put("pair", whole(1)), add("pair", may("name", api.Text)), put("pair", whole(1), text(""))}, some()},
		{[]api.Write{retype("pair", may("name", api.Int)), put("pair", whole(1), whole(2)), retype("pair", may("name", api.Text)), put("pair", whole(1), text("a"))}, some()},
		{[]api.Write{drop("pair"), create("pair", single()), put("pair", whole(5)), cut("people", "old"), put("people", text(""), whole(5), null(), blob("")), off("people", text(""), whole(5)), add("people", may("old", api.Bool)), drop("people"), create("people", people())}, pairIs(single())},
	} {
		wantBehind(t, some(), c.writes, c.want, api.OK)
	}
	wantBehind(t, nil, []api.Write{create("t", pair()), put("t", whole(1), text("a"))}, []api.Table{{Name: "t", Schema: pair()}}, api.OK)
	almost := tables(api.MaxTables)
	wantBehind(t, almost[:63], []api.Write{create("t063", single())}, almost, api.OK)
	wantBehind(t, almost, []api.Write{drop("t009"), create("t009", single())}, almost, api.OK)
}

// P14.1: what is of no kind.
func TestNoKind(t *testing.T) {
	for _, kind := range []int{0, -1, 4, 5, 6, 255, 257, math.MinInt64, math.MaxInt64} {
		wantRefused(t, some(), api.ErrKind, api.Write{Kind: kind})
		wantRefused(t, some(), api.ErrKind, api.Write{Kind: kind, Table: "pair", Row: api.Row{whole(1), null()}})
		wantRefused(t, some(), api.ErrKind, api.Write{Kind: kind, Table: "nobody", Row: api.Row{whole(1)}, Change: drop("pair").Change})
		wantRefused(t, nil, api.ErrKind, api.Write{Kind: kind, Change: create("t", pair()).Change})
	}
	// Ahead of what else is wrong with the change, and with what stands beside it.
	for _, kind := range []int{0, -1, 6, 255, 257, math.MinInt64, math.MaxInt64} {
		c := api.Change{Kind: kind, Table: "pair"}
		wantRefused(t, some(), api.ErrKind, turn(c))
		wantRefused(t, some(), api.ErrKind, turn(api.Change{Kind: kind}))
		wantRefused(t, some(), api.ErrKind, turn(api.Change{Kind: kind, Table: "A", Schema: pair(), Column: may("x", 77)}))
		wantRefused(t, some(), api.ErrKind, api.Write{Kind: api.Turn, Table: "pair", Row: api.Row{whole(1)}, Change: c})
	}
	// A row's write has no change, be it of a kind or of none.
	for _, kind := range []int{-1, 1, 2, 5, 6} {
		w := put("pair", whole(1), null())
		w.Change.Kind = kind
		wantRefused(t, some(), api.ErrArg, w)
	}
}

// P14.1: rows of no such table, ahead of all that is wrong with the row, and with
// what stands beside it.
func TestNoTable(t *testing.T) {
	for _, name := range append(wrongNames(), "a", "pai", "pair0", "PAIR", "t") {
		for _, row := range []api.Row{nil, {}, {whole(1)}, {whole(1), null()}, {flag(7)}} {
			for _, kind := range []int{api.Put, api.Off} {
				w := api.Write{Kind: kind, Table: name, Row: row}
				wantRefused(t, some(), api.ErrNone, w)
				wantRefused(t, nil, api.ErrNone, w)
				w.Change = drop("pair").Change
				wantRefused(t, some(), api.ErrNone, w)
			}
		}
	}
	for _, w := range []api.Write{put("pair", whole(1), null()), off("pair", whole(1))} {
		wantRefused(t, some(), api.ErrNone, drop("pair"), w)
		wantRefused(t, some()[1:], api.ErrNone, w, create("pair", pair()))
	}
}

// P14.1: rows that do not fit, ahead of what stands beside them.
func TestNoRow(t *testing.T) {
	over := blob(string(make([]byte, api.MaxText+1)))
	for _, w := range []api.Write{
		put("pair"), put("pair", whole(1)), put("pair", whole(1), text("a"), null()), put("pair", null(), null()), put("pair", text("1"), null()),
		put("pair", whole(1), whole(1)), put("pair", whole(1), blob("a")), put("pair", whole(1), text("\xff")), put("pair", whole(1), flag(0)),
		put("pair", api.Value{Kind: api.Int, Number: 1, Text: "x"}, null()), put("pair", whole(1), api.Value{Number: 1}), put("pair", whole(1), api.Value{Kind: 5}),
		put("people", text("a"), whole(1), flag(2), null(), null()), put("people", text("a"), whole(1), null(), null(), null()), put("people", text("a"), whole(1), flag(1), null(), over),
		off("pair"), off("pair", whole(1), null()), off("pair", whole(1), whole(1)), off("pair", null()), off("pair", text("1")), off("pair", flag(0)), off("pair", api.Value{Kind: api.Int, Text: "x"}),
		off("people", text("a")), off("people", whole(1), text("a")), off("people", text("a"), whole(1), flag(0)), off("people", text("\xff"), whole(1)), off("people", text("a"), null()),
	} {
		wantRefused(t, some(), api.ErrRow, w)
		w.Change = drop("pair").Change
		wantRefused(t, some(), api.ErrRow, w)
	}
	// By the tables that there are then, not by those that there were, or will be.
	wantRefused(t, some(), api.ErrRow, add("pair", may("x", api.Bool)), put("pair", whole(1), null()))
	wantRefused(t, some(), api.ErrRow, put("pair", whole(1), null(), null()), add("pair", may("x", api.Bool)))
	wantRefused(t, some(), api.ErrRow, cut("pair", "name"), put("pair", whole(1), null()))
	wantRefused(t, some(), api.ErrRow, retype("pair", may("name", api.Bytes)), put("pair", whole(1), text("a")))
	wantRefused(t, some(), api.ErrRow, drop("people"), create("people", single()), off("people", text("a"), whole(1)))
}

// P14.1: fields that are set, though their kind does not name them.
func TestOtherFields(t *testing.T) {
	for _, c := range []api.Change{{Kind: api.Drop}, {Kind: -1}, {Table: "pair"}, {Schema: api.Schema{Keys: 1}}, {Schema: pair()}, {Column: api.Column{Name: "x"}}, {Column: api.Column{Kind: 1}}, {Column: api.Column{None: true}}, drop("pair").Change} {
		for _, w := range []api.Write{put("pair", whole(1), null()), off("pair", whole(1))} {
			w.Change = c
			wantRefused(t, some(), api.ErrArg, w)
		}
	}
	for _, good := range []api.Write{create("t", pair()), drop("pair"), add("pair", may("x", api.Bool)), cut("pair", "name"), retype("pair", may("name", api.Int))} {
		if _, e := wal.Behind(some(), []api.Write{good}); e != api.OK {
			t.Fatal(brief(good), e)
		}
		named, rowed, schemed, columned := good, good, good, good
		named.Table, rowed.Row, schemed.Change.Schema, columned.Change.Column = "pair", api.Row{whole(1), null()}, api.Schema{Keys: 1}, may("more", api.Null)
		wantRefused(t, some(), api.ErrArg, named)
		wantRefused(t, some(), api.ErrArg, rowed)
		wantRefused(t, some(), api.ErrArg, schemed)
		wantRefused(t, some(), api.ErrArg, columned)
	}
}

// P14.1: changes that no event may tell, ahead of whether they can be followed.
func TestWrongTurns(t *testing.T) {
	for _, name := range wrongNames() {
		for _, w := range []api.Write{create(name, pair()), drop(name), add(name, may("x", api.Bool)), cut(name, "x"), retype(name, may("x", api.Bool)), add("pair", may(name, api.Bool)), add("pair", must(name, api.Bool)), cut("pair", name), retype("pair", may(name, api.Bool)), add("nobody", may(name, api.Bool))} {
			wantRefused(t, some(), api.ErrArg, w)
			wantRefused(t, nil, api.ErrArg, w)
		}
	}
	for _, s := range wrongSchemas() {
		wantRefused(t, some(), api.ErrArg, create("t", s))
		wantRefused(t, some(), api.ErrArg, create("pair", s))
		wantRefused(t, tables(api.MaxTables), api.ErrArg, create("t", s))
	}
	for _, kind := range []int{api.Null, 5, -1, 255, 258} {
		for _, table := range []string{"pair", "nobody"} {
			wantRefused(t, some(), api.ErrArg, add(table, may("x", kind)))
			wantRefused(t, some(), api.ErrArg, retype(table, may("name", kind)))
		}
	}
	none, kind := cut("pair", "name"), cut("pair", "name")
	none.Change.Column.None, kind.Change.Column.Kind = true, api.Text
	wantRefused(t, some(), api.ErrArg, none)
	wantRefused(t, some(), api.ErrArg, kind)
}

// P14.1: changes that can't be followed.
func TestTurnsNotFollowed(t *testing.T) {
	widest := of(1)
	for _, name := range []string{"a", "b", "c", "d", "e", "f", "g", "h", "i", "j", "k", "l", "m", "n", "o", "p"} {
		widest.Columns = append(widest.Columns, must(name, api.Int))
	}
	for _, c := range []struct {
		w     api.Write
		errno api.Errno
	}{
		{create("pair", pair()), api.ErrExist}, {create("pair", people()), api.ErrExist}, {create(long(), single()), api.ErrExist},
		{drop("nobody"), api.ErrNone}, {drop("pai"), api.ErrNone}, {add("nobody", may("x", api.Int)), api.ErrNone}, {cut("nobody", "id"), api.ErrNone}, {retype("nobody", may("name", api.Int)), api.ErrNone},
		{add("pair", must("x", api.Int)), api.ErrArg}, {add("pair", may("id", api.Int)), api.ErrExist}, {add("pair", may("name", api.Int)), api.ErrExist},
		{cut("pair", "x"), api.ErrNone}, {cut("pair", "id"), api.ErrSchema}, {cut("people", "id"), api.ErrSchema},
		{retype("pair", may("x", api.Int)), api.ErrNone}, {retype("pair", may("id", api.Int)), api.ErrSchema}, {retype("people", may("old", api.Int)), api.ErrSchema},
	} {
		wantRefused(t, some(), c.errno, c.w)
		wantRefused(t, some(), c.errno, put("pair", whole(1), null()), create("new", people()), c.w, create("newer", people()))
	}
	wantRefused(t, some(), api.ErrSchema, create("t", widest), add("t", may("q", api.Int)))
	wantRefused(t, some(), api.ErrExist, create("t", widest), create("t", widest))
	wantRefused(t, some(), api.ErrNone, drop("pair"), drop("pair"))
	wantRefused(t, some(), api.ErrNone, cut("pair", "name"), cut("pair", "name"))
	wantRefused(t, tables(api.MaxTables), api.ErrLimit, create("t", pair()))
	wantRefused(t, tables(api.MaxTables), api.ErrExist, create("t007", pair()))
	wantRefused(t, tables(api.MaxTables-1), api.ErrLimit, create("t", pair()), create("u", pair()))
	wantRefused(t, tables(api.MaxTables), api.ErrLimit, drop("t000"), create("t", pair()), create("t000", pair()))
}

// P14.1: of several writes that may not be the first one's error is told.
func TestFirstError(t *testing.T) {
	wrong := []struct {
		w     api.Write
		errno api.Errno
	}{
		{api.Write{}, api.ErrKind}, {turn(api.Change{}), api.ErrKind}, {put("t"), api.ErrNone}, {put("pair"), api.ErrRow}, {off("pair"), api.ErrRow},
		{drop("A"), api.ErrArg}, {create("pair", pair()), api.ErrExist}, {drop("t"), api.ErrNone}, {cut("pair", "id"), api.ErrSchema},
	}
	good := []api.Write{put("pair", whole(1), null()), off("pair", whole(2)), create("new", pair()), drop("pairs"), add("pair", may("x", api.Int))}
	for _, first := range wrong {
		for i := range good {
			wantRefused(t, some(), first.errno, append(slices.Clone(good[:i]), first.w)...)
			for _, second := range wrong {
				wantRefused(t, some(), first.errno, append(slices.Clone(good[:i]), first.w, second.w)...)
			}
		}
	}
}

// P14.2: all the same; each single thing that is another one tells.
func TestSame(t *testing.T) {
	base := api.Write{Kind: api.Put, Table: "pair", Row: api.Row{whole(1), text("a")}, Change: full(api.Alter).Change}
	for kind := range 6 {
		base.Kind = kind
		others := unlike(base)
		for i, a := range others {
			for j, b := range others {
				if got := wal.Same([]api.Write{a}, []api.Write{b}); got != (i == j) {
					t.Fatalf("Same of %s, %s: %t", brief(a), brief(b), got)
				}
			}
		}
	}
	a, b := put("pair", whole(1), null()), drop("pair")
	for _, c := range []struct {
		a, b []api.Write
		want bool
	}{
		{nil, nil, true}, {nil, []api.Write{}, true}, {[]api.Write{}, nil, true}, {nil, []api.Write{a}, false}, {nil, []api.Write{{}}, false}, {[]api.Write{{}}, nil, false},
		{[]api.Write{a, b}, []api.Write{a, b}, true}, {[]api.Write{a, b}, []api.Write{b, a}, false}, {[]api.Write{a, b}, []api.Write{a}, false}, {[]api.Write{a}, []api.Write{a, b}, false}, {[]api.Write{a, a}, []api.Write{a, b}, false}, {[]api.Write{b, a}, []api.Write{a, a}, false},
		{[]api.Write{{Kind: api.Off}}, []api.Write{{Kind: api.Off, Row: api.Row{}, Change: api.Change{Schema: api.Schema{Columns: []api.Column{}}}}}, true},
	} {
		if got := wal.Same(c.a, c.b); got != c.want {
			t.Errorf("Same of %s, %s: %t", brief(c.a), brief(c.b), got)
		}
	}
}

// unlike is a write, and others of which each has one thing that is another one.
func unlike(w api.Write) []api.Write {
	l := []api.Write{w}
	also := func(change func(w *api.Write)) {
		other := w
		other.Row = slices.Clone(w.Row)
		other.Change.Schema.Columns = slices.Clone(w.Change.Schema.Columns)
		change(&other)
		l = append(l, other)
	}
	also(func(w *api.Write) { w.Kind += 100 })
	also(func(w *api.Write) { w.Kind += 200 })
	also(func(w *api.Write) { w.Table += "s" })
	also(func(w *api.Write) { w.Row[0].Number++ })
	also(func(w *api.Write) { w.Row[1].Kind++ })
	also(func(w *api.Write) { w.Row[1].Text += "b" })
	also(func(w *api.Write) { w.Row = w.Row[:1] })
	also(func(w *api.Write) { w.Row = append(w.Row, null()) })
	also(func(w *api.Write) { w.Row = nil })
	also(func(w *api.Write) { slices.Reverse(w.Row) })
	also(func(w *api.Write) { w.Change = api.Change{} })
	also(func(w *api.Write) { w.Change.Kind++ })
	also(func(w *api.Write) { w.Change.Table += "s" })
	also(func(w *api.Write) { w.Change.Schema.Keys++ })
	also(func(w *api.Write) { w.Change.Schema.Columns[4].Name = "other" })
	also(func(w *api.Write) { w.Change.Schema.Columns[0].Kind++ })
	also(func(w *api.Write) { w.Change.Schema.Columns[2].None = true })
	also(func(w *api.Write) { w.Change.Schema.Columns = w.Change.Schema.Columns[:4] })
	also(func(w *api.Write) { w.Change.Schema.Columns = nil })
	also(func(w *api.Write) { w.Change.Column.Name += "s" })
	also(func(w *api.Write) { w.Change.Column.Kind++ })
	also(func(w *api.Write) { w.Change.Column.None = false })
	return l
}

// Tables that may not be are promised nothing, but that no call panics.
func TestWrongTables(t *testing.T) {
	writes := []api.Write{put("t", whole(1)), put("t"), off("t", whole(1)), off("t"), add("t", may("x", api.Int)), cut("t", "a"), retype("t", may("a", api.Int)), create("u", pair()), drop("t")}
	for _, s := range wrongSchemas() {
		for _, l := range [][]api.Table{{{Name: "t", Schema: s}}, {{Name: "t", Schema: s}, {Name: "t", Schema: s}, {Name: "A", Schema: s}}} {
			for _, w := range writes {
				wal.Behind(l, []api.Write{w, w})
				wal.Write(l, []api.Write{w, w}, api.Point{})
				wal.Read(l, plain(tables(1), []api.Write{w}, api.Point{}))
			}
		}
	}
}
