package event_test

import (
	"bytes"
	"fmt"
	"math"
	"slices"
	"strconv"
	"strings"
	"testing"

	"pantograph/api"
	"pantograph/event"
	"pantograph/image"
	"pantograph/lay"
	"pantograph/schema"
)

func null() api.Value         { return api.Value{} }
func flag(n int) api.Value    { return api.Value{Kind: api.Bool, Number: n} }
func whole(n int) api.Value   { return api.Value{Kind: api.Int, Number: n} }
func text(s string) api.Value { return api.Value{Kind: api.Text, Text: s} }
func blob(s string) api.Value { return api.Value{Kind: api.Bytes, Text: s} }

// must is a column that has no Null, may is one that may have it.
func must(name string, kind int) api.Column { return api.Column{Name: name, Kind: kind} }
func may(name string, kind int) api.Column {
	return api.Column{Name: name, Kind: kind, None: true}
}

func of(keys int, l ...api.Column) api.Schema { return api.Schema{Columns: l, Keys: keys} }

// many is as many columns that have no Null.
func many(n int) []api.Column {
	var l []api.Column
	for i := range n {
		l = append(l, must("c"+strconv.Itoa(i), 1+i%4))
	}
	return l
}

// long is the longest name.
func long() string { return strings.Repeat("z", api.MaxName) }

func pair() api.Schema { return of(1, must("id", api.Int), may("name", api.Text)) }

func people() api.Schema {
	return of(2, must("land", api.Text), must("id", api.Int), must("old", api.Bool), may("name", api.Text), may("face", api.Bytes))
}

// some is ordinary tables, with names that begin with one another.
func some() []api.Table {
	return []api.Table{
		{Name: "pair", Schema: pair()},
		{Name: "pairs", Schema: of(1, must("k", api.Bytes))},
		{Name: "people", Schema: people()},
		{Name: long(), Schema: of(api.MaxKeys, many(api.MaxColumns)...)},
	}
}

// tables is as many tables.
func tables(n int) []api.Table {
	var l []api.Table
	for i := range n {
		l = append(l, api.Table{Name: fmt.Sprintf("t%03d", i), Schema: pair()})
	}
	return l
}

// wrongNames is texts that are no names; wrongSchemas is schemas that may not be.
func wrongNames() []string {
	return []string{"", "A", "1", "_", "a-", "a ", "ä", "aä", "a\x00", "a\xff", "Pair", " pair", long() + "z", strings.Repeat("q", 300)}
}

func wrongSchemas() []api.Schema {
	return []api.Schema{
		{}, of(1), of(0, must("a", api.Int)), of(2, must("a", api.Int)), of(-1, must("a", api.Int)), of(257, must("a", api.Int)),
		of(5, many(6)...), of(1, many(api.MaxColumns+1)...), of(1, must("A", api.Int)), of(1, must("", api.Int)),
		of(1, must(long()+"z", api.Int)), of(1, must("a", api.Int), must("a", api.Text)), of(1, may("a", api.Int)),
		of(2, must("a", api.Int), may("b", api.Int)), of(1, must("a", api.Null)), of(1, must("a", 5)), of(1, must("a", -1)),
		of(1, must("a", api.Int), may("b", 258)), of(1, must("a", api.Int), must("b", api.Null)), of(math.MaxInt64, must("a", api.Int)),
	}
}

// others is numbers that are no kinds of columns.
func others() []int {
	return []int{api.Null, 5, -1, 6, 255, 256, 258, math.MinInt64, math.MaxInt64}
}

func create(table string, s api.Schema) api.Change {
	return api.Change{Kind: api.Create, Table: table, Schema: s}
}
func drop(table string) api.Change { return api.Change{Kind: api.Drop, Table: table} }
func turn(kind int, table string, c api.Column) api.Change {
	return api.Change{Kind: kind, Table: table, Column: c}
}
func alter(c api.Change) api.Event { return api.Event{Kind: api.Alter, Change: c} }
func marked(kind, n int) api.Event { return api.Event{Kind: kind, Number: n} }
func insert(table string, row ...api.Value) api.Event {
	return api.Event{Kind: api.Insert, Table: table, After: row}
}
func update(table string, row ...api.Value) api.Event {
	return api.Event{Kind: api.Update, Table: table, After: row}
}
func remove(table string, key ...api.Value) api.Event {
	return api.Event{Kind: api.Delete, Table: table, Before: key}
}

// numbered is the kinds of events that have a number.
func numbered() []int {
	return []int{api.Start, api.Begin, api.Commit, api.Abort, api.Low, api.High}
}

// rows is some rows that fit a schema.
func rows(s api.Schema) []api.Row {
	values := map[int][]api.Value{
		api.Bool:  {flag(0), flag(1)},
		api.Int:   {whole(0), whole(-1), whole(150), whole(math.MinInt64), whole(math.MaxInt64)},
		api.Text:  {text(""), text("ä\x00€"), text("a"), text(strings.Repeat("x", api.MaxText))},
		api.Bytes: {blob(""), blob("\xff\x00\x01"), blob(strings.Repeat("\xff", api.MaxText))},
	}
	var l []api.Row
	for i := range 5 {
		var row api.Row
		for j, c := range s.Columns {
			own := values[c.Kind]
			v := own[(i+j)%len(own)]
			if c.None && (i == 1 || i > 1 && (i+j)%2 == 0) {
				v = null()
			}
			row = append(row, v)
		}
		l = append(l, row)
	}
	return l
}

// changes is some changes that an event may tell.
func changes() []api.Change {
	l := []api.Change{
		create("pair", pair()), create("new", people()), create(long(), of(api.MaxKeys, many(api.MaxColumns)...)),
		create("a", of(1, must("b", api.Int), may(long(), api.Bytes))), drop("pair"), drop("a"), drop(long()),
		turn(api.Cut, "people", api.Column{Name: "name"}), turn(api.Cut, "nobody", api.Column{Name: long()}), turn(api.Cut, long(), api.Column{Name: "a"}),
	}
	for _, kind := range []int{api.Bool, api.Int, api.Text, api.Bytes} {
		l = append(l, create("k", of(1, must("k", kind), may("m", kind), must("n", kind))))
		for _, c := range []api.Column{may("name", kind), must("name", kind), may(long(), kind), must("a", kind)} {
			l = append(l, turn(api.Add, "people", c), turn(api.Retype, "people", c), turn(api.Add, long(), c), turn(api.Retype, "a", c))
		}
	}
	return l
}

// events is some events that may be, by the tables some.
func events() []api.Event {
	var l []api.Event
	for _, kind := range numbered() {
		for _, n := range []int{0, 1, 5, 127, 128, 300, 1 << 31, math.MaxInt64} {
			l = append(l, marked(kind, n))
		}
	}
	for _, t := range some() {
		for _, row := range rows(t.Schema) {
			l = append(l, insert(t.Name, row...), update(t.Name, row...), remove(t.Name, row[:t.Schema.Keys]...))
		}
	}
	for _, c := range changes() {
		l = append(l, alter(c))
	}
	return l
}

// plain is an event's bytes as the chapter's words say them.
func plain(e api.Event) []byte {
	l, b := some(), []byte{byte(e.Kind)}
	i := slices.IndexFunc(l, func(t api.Table) bool { return t.Name == e.Table })
	switch e.Kind {
	case api.Insert, api.Update:
		return image.Write(lay.Text(b, e.Table), l[i].Schema, e.After)
	case api.Delete:
		return image.WriteKey(lay.Text(b, e.Table), l[i].Schema, e.Before)
	case api.Alter:
		return slices.Concat(b, plainChange(e.Change))
	}
	return lay.Number(b, e.Number)
}

func plainChange(c api.Change) []byte {
	b := lay.Text([]byte{byte(c.Kind)}, c.Table)
	columns := c.Schema.Columns
	if c.Kind == api.Create {
		b = append(b, byte(c.Schema.Keys), byte(len(columns)))
	}
	if c.Kind == api.Add || c.Kind == api.Retype {
		columns = []api.Column{c.Column}
	}
	for _, column := range columns {
		none := map[bool]byte{true: 1}[column.None]
		b = append(lay.Text(b, column.Name), byte(column.Kind), none)
	}
	if c.Kind == api.Cut {
		b = lay.Text(b, c.Column.Name)
	}
	return b
}

// brief is the beginning of a thing, to be printed.
func brief(x any) string {
	s := fmt.Sprintf("%q", fmt.Sprint(x))
	return s[:min(len(s), 200)]
}

func sameTable(a, b api.Table) bool { return a.Name == b.Name && schema.Same(a.Schema, b.Schema) }

// cloned is tables in memory of their own.
func cloned(l []api.Table) []api.Table {
	l = slices.Clone(l)
	for i := range l {
		l[i].Schema = schema.Clone(l[i].Schema)
	}
	return l
}

// P6.1: tables that may be.
func TestRight(t *testing.T) {
	good := [][]api.Table{nil, {}, some(), some()[1:], tables(1), tables(api.MaxTables), {{Name: "a", Schema: pair()}, {Name: "a0", Schema: people()}, {Name: "a_", Schema: pair()}, {Name: "aa", Schema: pair()}, {Name: "b", Schema: pair()}}}
	for _, l := range good {
		if !event.Right(l) {
			t.Errorf("Right(%s) = false", brief(l))
		}
	}
	wrong := [][]api.Table{
		tables(api.MaxTables + 1), tables(200), {{}}, append(some(), some()[3]), append(some(), some()[0]),
		{some()[1], some()[0]}, {some()[0], some()[0]}, {some()[0], some()[2], some()[1]}, {some()[0], some()[1], some()[1]},
	}
	for _, name := range wrongNames() {
		wrong = append(wrong, []api.Table{{Name: name, Schema: pair()}})
	}
	for _, s := range wrongSchemas() {
		wrong = append(wrong, []api.Table{{Name: "a", Schema: s}}, append(some()[:3], api.Table{Name: "z", Schema: s}), append([]api.Table{{Name: "a", Schema: s}}, some()...))
	}
	for _, l := range wrong {
		if event.Right(l) {
			t.Errorf("Right(%s) = true", brief(l))
		}
	}
}

// P6.1: each of the tables is found, and no other.
func TestFind(t *testing.T) {
	for _, l := range [][]api.Table{some(), tables(api.MaxTables), tables(1)} {
		for _, own := range l {
			if s, ok := event.Find(l, own.Name); !ok || !schema.Same(s, own.Schema) {
				t.Errorf("Find(%q): %v, %t", own.Name, s, ok)
			}
			for _, name := range []string{own.Name + "x", own.Name[1:], strings.ToUpper(own.Name), "", "a", "zzz", own.Name + "\x00", strings.Repeat("q", 5000)} {
				if s, ok := event.Find(l, name); ok || !schema.Same(s, api.Schema{}) {
					t.Errorf("Find(%q): %v, %t", name, s, ok)
				}
			}
		}
	}
	if s, ok := event.Find(nil, "pair"); ok || !schema.Same(s, api.Schema{}) {
		t.Error(s, ok)
	}
}

// wantFollow checks what l comes to behind c.
func wantFollow(t *testing.T, l []api.Table, c api.Change, want []api.Table, errno api.Errno) {
	t.Helper()
	was := cloned(l)
	got, e := event.Follow(l, c)
	if e != errno || !slices.EqualFunc(got, want, sameTable) {
		t.Errorf("%s behind %s: %s, %d; not %s, %d", brief(l), brief(c), brief(got), e, brief(want), errno)
	}
	if e == api.OK && event.Right(l) && !event.Right(got) {
		t.Errorf("%s behind %s may not be: %s", brief(l), brief(c), brief(got))
	}
	if !slices.EqualFunc(l, was, sameTable) {
		t.Errorf("%s behind %s: what was handed in is changed", brief(was), brief(c))
	}
}

// P6.1: Create puts a table where its name stands.
func TestFollowCreate(t *testing.T) {
	wantFollow(t, nil, create("t", pair()), []api.Table{{Name: "t", Schema: pair()}}, api.OK)
	for name, i := range map[string]int{"a": 0, "pai": 0, "pair0": 1, "pairr": 1, "pairs_": 2, "pairsx": 2, "peoplf": 3, "q": 3, long()[1:]: 3} {
		for _, s := range []api.Schema{people(), of(api.MaxKeys, many(api.MaxColumns)...), of(1, must("a", api.Bool))} {
			wantFollow(t, some(), create(name, s), slices.Insert(some(), i, api.Table{Name: name, Schema: s}), api.OK)
		}
	}
	for i := range some() {
		wantFollow(t, slices.Delete(some(), i, i+1), create(some()[i].Name, some()[i].Schema), some(), api.OK)
	}
	full := tables(api.MaxTables)
	for i := range full {
		wantFollow(t, slices.Delete(slices.Clone(full), i, i+1), create(full[i].Name, pair()), full, api.OK)
	}
	// A column does not matter here.
	c := create("t", pair())
	c.Column = may("A", 77)
	wantFollow(t, nil, c, []api.Table{{Name: "t", Schema: pair()}}, api.OK)
}

// P6.1: Create that can't be followed: where several errors apply, the first
// one of them is told.
func TestFollowCreateErrors(t *testing.T) {
	full := tables(api.MaxTables)
	for _, name := range wrongNames() {
		for _, s := range append(wrongSchemas(), pair()) {
			wantFollow(t, some(), create(name, s), nil, api.ErrName)
			wantFollow(t, full, create(name, s), nil, api.ErrName)
			wantFollow(t, nil, create(name, s), nil, api.ErrName)
		}
	}
	for _, s := range append(wrongSchemas(), pair()) {
		for _, own := range some() {
			wantFollow(t, some(), create(own.Name, s), nil, api.ErrExist)
		}
		wantFollow(t, full, create("t000", s), nil, api.ErrExist)
		wantFollow(t, full, create("t063", s), nil, api.ErrExist)
	}
	for _, s := range wrongSchemas() {
		wantFollow(t, nil, create("t", s), nil, api.ErrArg)
		wantFollow(t, some(), create("t", s), nil, api.ErrArg)
		wantFollow(t, full, create("t", s), nil, api.ErrArg)
	}
	for _, name := range []string{"t", "a", "t030a", "z", long()} {
		wantFollow(t, full, create(name, pair()), nil, api.ErrLimit)
	}
}

// P6.1: Drop takes the table of that name away, and no other.
func TestFollowDrop(t *testing.T) {
	for _, l := range [][]api.Table{some(), tables(1), tables(api.MaxTables)} {
		for i := range l {
			wantFollow(t, l, drop(l[i].Name), slices.Delete(slices.Clone(l), i, i+1), api.OK)
		}
		for _, name := range append(wrongNames(), "pai", "pairss", "zz") {
			wantFollow(t, l, drop(name), nil, api.ErrNone)
		}
	}
	wantFollow(t, nil, drop("pair"), nil, api.ErrNone)
	// A schema and a column do not matter here.
	c := drop("pair")
	c.Schema, c.Column = of(77), may("A", 77)
	wantFollow(t, some(), c, some()[1:], api.OK)
}

// P6.1: all other changes are Apply's, of the table of that name alone.
func TestFollowApply(t *testing.T) {
	columns := []api.Column{{}, may("new", api.Int), must("new", api.Int), may("new", 5), may("A", api.Int), may("c1", api.Int), may("", api.Bool)}
	for _, own := range some() {
		for _, c := range own.Schema.Columns {
			columns = append(columns, api.Column{Name: c.Name}, may(c.Name, api.Bool), must(c.Name, api.Text))
		}
	}
	told := map[api.Errno]int{}
	for _, kind := range []int{api.Add, api.Cut, api.Retype, 0, 6, -1, 255, 257, 258, math.MinInt64, math.MaxInt64} {
		for _, column := range columns {
			for i, own := range some() {
				c := turn(kind, own.Name, column)
				s, errno := schema.Apply(own.Schema, c)
				told[errno]++
				want := some()
				want[i].Schema = s
				if errno != api.OK {
					want = nil
				}
				wantFollow(t, some(), c, want, errno)
			}
			for _, name := range []string{"", "pai", "pairss", "A", "zz"} {
				wantFollow(t, some(), turn(kind, name, column), nil, api.ErrNone)
			}
			wantFollow(t, nil, turn(kind, "pair", column), nil, api.ErrNone)
		}
	}
	for _, errno := range []api.Errno{api.OK, api.ErrArg, api.ErrExist, api.ErrSchema, api.ErrNone, api.ErrKind} {
		if told[errno] == 0 {
			t.Error("never told:", errno)
		}
	}
}

// P6.1, R4: what Find and Follow tell is new memory, at every depth, also where
// two tables, or a change and a table, are handed in with the same columns.
func TestTablesAreNew(t *testing.T) {
	l, shared := slices.Grow(some(), 5), people()
	shared.Columns = slices.Grow(shared.Columns, 5)
	l[1].Schema, l[2].Schema = shared, shared
	was := cloned(l)
	for _, own := range was {
		s, _ := event.Find(l, own.Name)
		clear(s.Columns[:cap(s.Columns)])
	}
	for _, c := range append(changes(), create("a", shared), create("zzzz", shared), turn(api.Add, "pairs", may("b", api.Int)), turn(api.Cut, "people", api.Column{Name: "face"})) {
		kept := schema.Clone(c.Schema)
		got, errno := event.Follow(l, c)
		if errno == api.OK {
			wantApart(t, got)
		}
		if !schema.Same(c.Schema, kept) {
			t.Fatalf("behind %s: the change shares memory", brief(c))
		}
	}
	room := l[len(l):cap(l)]
	if !slices.EqualFunc(l, was, sameTable) || !slices.EqualFunc(room, make([]api.Table, len(room)), sameTable) {
		t.Errorf("what was handed in is changed: %s", brief(l[:cap(l)]))
	}
}

// wantApart checks that no two of the tables share their columns' memory, all of
// which it clears.
func wantApart(t *testing.T, l []api.Table) {
	t.Helper()
	for i := range l {
		rest := cloned(l[i+1:])
		columns := l[i].Schema.Columns
		clear(columns[:cap(columns)])
		if !slices.EqualFunc(l[i+1:], rest, sameTable) {
			t.Fatalf("tables share their columns: %s", brief(rest))
		}
	}
	clear(l[:cap(l)])
}

// wantMay checks what May tells of e, by the tables l, and what Write does.
func wantMay(t *testing.T, e api.Event, l []api.Table, errno api.Errno) {
	t.Helper()
	if got := event.May(e, l); got != errno {
		t.Errorf("May of %s: %d, not %d", brief(e), got, errno)
	}
	b, got := event.Write(e, l)
	if got != errno || (errno == api.OK) != (len(b) > 0) {
		t.Errorf("Write of %s: %.40q, %d, not %d", brief(e), b, got, errno)
	}
}

// P6.2: events that may be.
func TestMay(t *testing.T) {
	for _, e := range events() {
		wantMay(t, e, some(), api.OK)
		// An empty list is none.
		if len(e.Before) == 0 {
			e.Before = api.Row{}
		}
		if len(e.After) == 0 {
			e.After = api.Row{}
		}
		if len(e.Change.Schema.Columns) == 0 {
			e.Change.Schema.Columns = []api.Column{}
		}
		wantMay(t, e, some(), api.OK)
		if e.Table == "" {
			wantMay(t, e, nil, api.OK)
			wantMay(t, e, tables(api.MaxTables), api.OK)
		}
	}
}

// P6.2: kinds that are none, whatever else is wrong.
func TestMayKind(t *testing.T) {
	for _, kind := range []int{0, 11, -1, 12, 255, 256, 257, 258, 261, 266, math.MinInt64, math.MaxInt64} {
		for _, e := range append(events(), api.Event{}, marked(0, -1), insert("nobody"), alter(api.Change{})) {
			e.Kind = kind
			wantMay(t, e, some(), api.ErrKind)
		}
	}
	for _, kind := range []int{0, 6, -1, 255, 256, 257, 258, 261, math.MinInt64, math.MaxInt64} {
		for _, c := range append(changes(), api.Change{}, drop(""), create("A", of(9))) {
			c.Kind = kind
			e := alter(c)
			wantMay(t, e, some(), api.ErrKind)
			e.Number, e.Table, e.After, e.Before = -1, "nobody", api.Row{whole(1)}, api.Row{null()}
			wantMay(t, e, some(), api.ErrKind)
		}
		// The change of another event is no change: it should not be there.
		e := marked(api.Begin, 1)
		e.Change.Kind = kind
		if kind != 0 {
			wantMay(t, e, some(), api.ErrArg)
		}
	}
}

// P6.2: an event of no table, whatever its row is.
func TestMayNone(t *testing.T) {
	for _, e := range []api.Event{insert("", whole(1), null()), insert("pai", whole(1), null()), update("pairss", whole(1)), update("PAIR"), remove("a", whole(1)), remove(""), remove("pair\x00", whole(1)), insert(long()+"z", whole(1))} {
		wantMay(t, e, some(), api.ErrNone)
		wantMay(t, e, nil, api.ErrNone)
		e.Number, e.Change = -1, drop("pair")
		wantMay(t, e, some(), api.ErrNone)
	}
	wantMay(t, insert("pair", whole(1), null()), nil, api.ErrNone)
	wantMay(t, insert("pair", whole(1), null()), some()[1:], api.ErrNone)
}

// P6.2: rows that do not fit, and keys that are none of the table's.
func TestMayRow(t *testing.T) {
	over := strings.Repeat("x", api.MaxText+1)
	rows := []api.Row{
		nil, {}, {whole(1)}, {null(), null()}, {whole(1), null(), null()}, {text("a"), null()}, {whole(1), blob("a")}, {whole(1), text("\xff")},
		{whole(1), text(over)}, {whole(1), {Number: 1}}, {{Kind: api.Int, Text: "a"}, null()}, {whole(1), {Kind: 77}}, {flag(1), text("a")},
	}
	keys := []api.Row{nil, {}, {null()}, {text("a")}, {flag(1)}, {whole(1), null()}, {whole(1), text("a")}, {whole(1), whole(1)}, {{Kind: api.Int, Text: "a"}}, {{Kind: 77}}}
	var l []api.Event
	for _, row := range rows {
		l = append(l, insert("pair", row...), update("pair", row...))
	}
	for _, key := range keys {
		l = append(l, remove("pair", key...))
	}
	for _, key := range []api.Row{{text("a")}, {text("a"), whole(1), flag(1)}, {whole(1), text("a")}, {text("\xff"), whole(1)}, {text(over), whole(1)}, {text("a"), null()}, {text("a"), whole(1), flag(1), null(), null()}} {
		l = append(l, remove("people", key...))
	}
	l = append(l, remove("pairs", blob(over)), insert("pairs", text("a")), insert("people", text("a"), whole(1), null(), null(), null()), insert("people", text("a"), whole(1), flag(2), null(), null()))
	for _, e := range l {
		wantMay(t, e, some(), api.ErrRow)
		// The row's side that the kind does not ask for does not help.
		other := e
		other.Before, other.After = e.After, e.Before
		wantMay(t, other, some(), api.ErrRow)
		e.Number, e.Change = 3, drop("pair")
		wantMay(t, e, some(), api.ErrRow)
	}
	e := insert("pair", whole(1), null())
	e.Kind = api.Delete
	wantMay(t, e, some(), api.ErrRow)
	e = remove("pairs", blob("a"))
	for _, kind := range []int{api.Insert, api.Update} {
		e.Kind = kind
		wantMay(t, e, some(), api.ErrRow)
	}
}

// P6.2: fields that the kind does not tell of are zero.
func TestMayFields(t *testing.T) {
	set := map[string]func(*api.Event){
		"Number":        func(e *api.Event) { e.Number = 1 },
		"Table":         func(e *api.Event) { e.Table = "pair" },
		"Before":        func(e *api.Event) { e.Before = api.Row{null()} },
		"After":         func(e *api.Event) { e.After = api.Row{null()} },
		"Change":        func(e *api.Event) { e.Change.Kind = api.Drop },
		"Change.Table":  func(e *api.Event) { e.Change.Table = "pair" },
		"Change.Keys":   func(e *api.Event) { e.Change.Schema.Keys = 1 },
		"Change.Schema": func(e *api.Event) { e.Change.Schema.Columns = []api.Column{{}} },
		"Change.Column": func(e *api.Event) { e.Change.Column.Name = "a" },
		"Change.None":   func(e *api.Event) { e.Change.Column.None = true },
		"Change.Type":   func(e *api.Event) { e.Change.Column.Kind = api.Int },
	}
	own := map[int][]string{api.Insert: {"Table", "After"}, api.Update: {"Table", "After"}, api.Delete: {"Table", "Before"}, api.Alter: {"Change", "Change.Table"}}
	for _, kind := range numbered() {
		own[kind] = []string{"Number"}
	}
	changed := map[int][]string{api.Create: {"Change.Keys", "Change.Schema"}, api.Add: {"Change.Column", "Change.None", "Change.Type"}, api.Retype: {"Change.Column", "Change.None", "Change.Type"}, api.Cut: {"Change.Column"}}
	for _, e := range events() {
		for name, f := range set {
			if slices.Contains(own[e.Kind], name) || slices.Contains(changed[e.Change.Kind], name) {
				continue
			}
			other := e
			f(&other)
			wantMay(t, other, some(), api.ErrArg)
		}
	}
	for _, kind := range numbered() {
		for _, n := range []int{-1, -5, math.MinInt64} {
			wantMay(t, marked(kind, n), some(), api.ErrArg)
		}
	}
}

// P6.2: changes that no event tells.
func TestMayChange(t *testing.T) {
	for _, name := range wrongNames() {
		for _, c := range changes() {
			c.Table = name
			wantMay(t, alter(c), some(), api.ErrArg)
		}
		for _, kind := range []int{api.Add, api.Retype} {
			wantMay(t, alter(turn(kind, "people", may(name, api.Int))), some(), api.ErrArg)
		}
		wantMay(t, alter(turn(api.Cut, "people", api.Column{Name: name})), some(), api.ErrArg)
	}
	for _, kind := range others() {
		for _, none := range []bool{false, true} {
			for _, change := range []int{api.Add, api.Retype} {
				wantMay(t, alter(turn(change, "people", api.Column{Name: "name", Kind: kind, None: none})), some(), api.ErrArg)
			}
		}
	}
	for _, s := range wrongSchemas() {
		wantMay(t, alter(create("new", s)), some(), api.ErrArg)
	}
}

// P6.2: what a change can't be followed for is not asked.
func TestMayUnfollowed(t *testing.T) {
	full := tables(api.MaxTables)
	for _, c := range []api.Change{
		create("t001", pair()), create("z", pair()), drop("z"), turn(api.Add, "z", may("a", api.Int)), turn(api.Add, "t001", must("a", api.Int)), turn(api.Add, "t001", may("id", api.Int)),
		turn(api.Cut, "t001", api.Column{Name: "id"}), turn(api.Cut, "t001", api.Column{Name: "z"}), turn(api.Retype, "t001", may("id", api.Int)), turn(api.Retype, "t001", may("z", api.Int)),
	} {
		if _, errno := event.Follow(full, c); errno == api.OK {
			t.Errorf("%s can be followed", brief(c))
		}
		wantMay(t, alter(c), full, api.OK)
	}
}

// P6.2: some events, byte by byte.
func TestWrite(t *testing.T) {
	for _, c := range []struct {
		e    api.Event
		want string
	}{
		{marked(api.Commit, 5), "\x07\x05"},
		{marked(api.Start, 1), "\x01\x01"},
		{marked(api.Begin, 0), "\x02\x00"},
		{marked(api.Abort, 300), "\x08\xac\x02"},
		{marked(api.Low, 127), "\x09\x7f"},
		{marked(api.High, math.MaxInt64), "\x0a\xff\xff\xff\xff\xff\xff\xff\xff\x7f"},
		{insert("pair", whole(1), null()), "\x03\x04pair\x02\x02"},
		{insert("pair", whole(-3), text("hi")), "\x03\x04pair\x00\x05\x02hi"},
		{update("people", text("ch"), whole(7), flag(1), null(), blob("\xff")), "\x04\x06people\x08\x02ch\x0e\x01\x01\xff"},
		{remove("pair", whole(1)), "\x05\x04pair\x00\x02"},
		{remove("people", text("ch"), whole(7)), "\x05\x06people\x00\x02ch\x0e"},
		{remove("pairs", blob("")), "\x05\x05pairs\x00\x00"},
		{alter(create("pair", pair())), "\x06\x01\x04pair\x01\x02\x02id\x02\x00\x04name\x03\x01"},
		{alter(create("t", of(2, must("a", api.Bool), must("b", api.Bytes)))), "\x06\x01\x01t\x02\x02\x01a\x01\x00\x01b\x04\x00"},
		{alter(drop("pair")), "\x06\x02\x04pair"},
		{alter(turn(api.Add, "pair", may("face", api.Bytes))), "\x06\x03\x04pair\x04face\x04\x01"},
		{alter(turn(api.Add, "pair", must("face", api.Bytes))), "\x06\x03\x04pair\x04face\x04\x00"},
		{alter(turn(api.Cut, "pair", api.Column{Name: "name"})), "\x06\x04\x04pair\x04name"},
		{alter(turn(api.Retype, "pair", may("name", api.Int))), "\x06\x05\x04pair\x04name\x02\x01"},
		{alter(turn(api.Retype, "pair", must("name", api.Bool))), "\x06\x05\x04pair\x04name\x01\x00"},
	} {
		if b, errno := event.Write(c.e, some()); string(b) != c.want || errno != api.OK {
			t.Errorf("Write of %s: %q, %d; not %q", brief(c.e), b, errno, c.want)
		}
		wantRead(t, []byte(c.want), some(), c.e, api.OK)
	}
	for _, e := range events() {
		if b, errno := event.Write(e, some()); !bytes.Equal(b, plain(e)) || errno != api.OK {
			t.Errorf("Write of %s: %s, %d", brief(e), brief(b), errno)
		}
	}
}

// wantRead checks that b is e's bytes, by the tables l, or that errno is told.
func wantRead(t *testing.T, b []byte, l []api.Table, e api.Event, errno api.Errno) {
	t.Helper()
	got, is := event.Read(b, l)
	if is != errno || !event.Same(got, e) {
		t.Errorf("Read of %.60q: %s, %d; not %s, %d", b, brief(got), is, brief(e), errno)
	}
}

// wantForm checks that b is no event's bytes.
func wantForm(t *testing.T, b string) {
	t.Helper()
	wantRead(t, []byte(b), some(), api.Event{}, api.ErrForm)
}

// P6.4: what is written is read as the same, and nothing else is read of it.
func TestReadBack(t *testing.T) {
	for _, e := range events() {
		b, errno := event.Write(e, some())
		if errno != api.OK {
			t.Fatal(brief(e), errno)
		}
		wantRead(t, b, some(), e, api.OK)
		if e.Table == "" {
			wantRead(t, b, nil, e, api.OK)
		}
		for _, tail := range []string{"\x00", "\x01", "\xff", "abc", string(b)} {
			wantForm(t, string(b)+tail)
		}
		for cut := 0; cut < len(b); cut += 1 + cut/20 {
			wantForm(t, string(b[:cut]))
		}
		wantForm(t, string(b[:len(b)-1]))
	}
}

// P6.3: kinds that are none, whatever stands behind them.
func TestReadKind(t *testing.T) {
	wantForm(t, "")
	for kind := range 256 {
		if kind >= api.Start && kind <= api.High {
			wantForm(t, string([]byte{byte(kind)}))
			continue
		}
		for _, e := range append(events()[:3], insert("pair", whole(1), null()), remove("pair", whole(1)), insert("pairs", blob("a")), alter(drop("a"))) {
			b := plain(e)
			b[0] = byte(kind)
			wantForm(t, string(b))
		}
	}
	for kind := range 256 {
		if kind < api.Create || kind > api.Retype {
			for _, c := range changes() {
				b := plainChange(c)
				b[0] = byte(kind)
				wantForm(t, "\x06"+string(b))
			}
		}
	}
}

// P6.3: numbers that are none.
func TestReadNumber(t *testing.T) {
	for _, kind := range numbered() {
		for _, own := range []string{"", "\x80", "\x80\x00", "\x85\x00", "\x05\x00", strings.Repeat("\xff", 9) + "\x01", strings.Repeat("\x80", 9) + "\x01", strings.Repeat("\x80", 10) + "\x01"} {
			wantForm(t, string([]byte{byte(kind)})+own)
		}
	}
}

// P6.3: a table that is a text, but none of those that there are, whatever
// stands behind it; one that is no text is of no form.
func TestReadNone(t *testing.T) {
	for _, kind := range []string{"\x03", "\x04", "\x05"} {
		for _, name := range []string{"", "p", "pai", "paiR", "pairss", "A", "\xff\x00", "t\x00", long()[1:], long() + "z", strings.Repeat("q", api.MaxText), strings.Repeat("q", 20000)} {
			for _, tail := range []string{"", "\x00", "\x02\x02", "\xff\xff\xff", strings.Repeat("\x80", 20)} {
				wantRead(t, []byte(kind+string(lay.Text(nil, name))+tail), some(), api.Event{}, api.ErrNone)
				wantRead(t, []byte(kind+string(lay.Text(nil, name))+tail), nil, api.Event{}, api.ErrNone)
			}
		}
		for _, own := range []string{"", "\x01", "\x04pai", "\x80", "\x84\x00pair", "\x80\x00", "\xff", strings.Repeat("\xff", 8) + "\x7fpair", strings.Repeat("\xff", 9) + "\x01pair", strings.Repeat("\x80", 10) + "\x01pair", string(lay.Text(nil, strings.Repeat("q", 20000)))[:20000]} {
			wantForm(t, kind+own)
			wantRead(t, []byte(kind+own), nil, api.Event{}, api.ErrForm)
		}
		wantRead(t, []byte(kind+"\x04pair\x00\x02\x01a"), nil, api.Event{}, api.ErrNone)
		wantRead(t, []byte(kind+"\x04pair"), some()[1:], api.Event{}, api.ErrNone)
	}
	// An Alter's table is not asked for.
	wantRead(t, []byte("\x06\x02\x01z"), some(), alter(drop("z")), api.OK)
	wantForm(t, "\x06\x02\x01Z")
}

// P6.3: rows and keys that are none of the table's.
func TestReadRow(t *testing.T) {
	for _, own := range []string{"", "\x00", "\x02", "\x00\x02", "\x01\x02", "\x03", "\x04\x02\x01a", "\x80\x02\x01a", "\x00\x80\x00\x01a", "\x00\x02\x01\xff", "\x00\x02\x02a", "\x02\x02\x01a", "\x00\x02\x81\x00a", "\x02\x02\x00"} {
		wantForm(t, "\x03\x04pair"+own)
		wantForm(t, "\x04\x04pair"+own)
	}
	for _, own := range []string{"", "\x00", "\x02", "\x01", "\x02\x02", "\x01\x02", "\x80\x02", "\x00\x80\x00", "\x00\x02\x01a", "\x00\x02\x00"} {
		wantForm(t, "\x05\x04pair"+own)
	}
	for i := 2; i < 256; i++ {
		wantForm(t, "\x03\x06people\x18\x02ch\x0e"+string([]byte{byte(i)}))
	}
}

// P6.3: each byte of what tells whether a column has None: 0 and 1 alone do.
func TestReadColumnNone(t *testing.T) {
	for i := range 256 {
		own, none := string([]byte{byte(i)}), i == 1
		column := api.Column{Name: "b", Kind: api.Int, None: none}
		for b, e := range map[string]api.Event{
			"\x06\x03\x01a\x01b\x02" + own:                      alter(turn(api.Add, "a", column)),
			"\x06\x05\x01a\x01b\x02" + own:                      alter(turn(api.Retype, "a", column)),
			"\x06\x01\x01a\x01\x02\x01a\x02\x00\x01b\x02" + own: alter(create("a", of(1, must("a", api.Int), column))),
		} {
			if i > 1 {
				wantForm(t, b)
			} else {
				wantRead(t, []byte(b), some(), e, api.OK)
			}
		}
		if i > 0 {
			wantForm(t, "\x06\x01\x01a\x01\x02\x01a\x02"+own+"\x01b\x02\x00")
		}
	}
}

// inBytes tells whether s's numbers are bytes, so that bytes can tell them.
func inBytes(s api.Schema) bool {
	isByte := func(n int) bool { return n == int(byte(n)) }
	return isByte(s.Keys) && !slices.ContainsFunc(s.Columns, func(c api.Column) bool { return !isByte(c.Kind) })
}

// P6.3: changes that no event tells.
func TestReadChange(t *testing.T) {
	for _, name := range wrongNames() {
		for _, c := range changes() {
			c.Table = name
			wantForm(t, string(plain(alter(c))))
		}
		for _, kind := range []int{api.Add, api.Cut, api.Retype} {
			wantForm(t, string(plain(alter(turn(kind, "people", may(name, api.Int))))))
		}
	}
	for kind := range 256 {
		if kind >= api.Bool && kind <= api.Bytes {
			continue
		}
		for _, none := range []bool{false, true} {
			column := api.Column{Name: "b", Kind: kind, None: none}
			wantForm(t, string(plain(alter(turn(api.Add, "a", column)))))
			wantForm(t, string(plain(alter(turn(api.Retype, "a", column)))))
			wantForm(t, string(plain(alter(create("a", of(1, must("a", api.Int), column))))))
		}
	}
	for _, s := range wrongSchemas() {
		if inBytes(s) {
			wantForm(t, string(plain(alter(create("a", s)))))
		}
	}
	for n := range 256 {
		b := plain(alter(create("a", of(1, many(n)...))))
		if n >= 1 && n <= api.MaxColumns {
			wantRead(t, b, nil, alter(create("a", of(1, many(n)...))), api.OK)
		} else {
			wantForm(t, string(b))
		}
		b = plain(alter(create("a", of(n, many(6)...))))
		if n >= 1 && n <= api.MaxKeys {
			wantRead(t, b, nil, alter(create("a", of(n, many(6)...))), api.OK)
		} else {
			wantForm(t, string(b))
		}
	}
}

// P6.3: each byte of some events, changed to each other one: another event is
// told, whose bytes these are, or an error.
func TestReadChanged(t *testing.T) {
	read := map[api.Errno]int{}
	l := []api.Event{marked(api.Begin, 5), marked(api.High, 300), insert("pair", whole(1), text("ab")), update("people", text("ch"), whole(7), flag(1), null(), blob("\xff")), remove("people", text("ch"), whole(7)), remove("pairs", blob("a"))}
	for _, c := range changes() {
		l = append(l, alter(c))
	}
	for _, e := range l {
		b := plain(e)
		for i := range b {
			for c := range 256 {
				own := bytes.Clone(b)
				own[i] = byte(c)
				got, errno := event.Read(own, some())
				read[errno]++
				if errno == api.OK && event.Same(got, e) != (c == int(b[i])) {
					t.Fatalf("Read of %.60q and of %.60q", own, b)
				}
				wantCanon(t, own, got, errno)
			}
		}
	}
	if len(read) != 3 || read[api.OK] < 100 || read[api.ErrForm] < 100 || read[api.ErrNone] < 100 {
		t.Error(read)
	}
}

// wantCanon checks what Read told of b: an event that may be, and whose bytes
// are just b, or the zero one and one of two errors.
func wantCanon(t *testing.T, b []byte, e api.Event, errno api.Errno) {
	t.Helper()
	if errno != api.OK {
		if !event.Same(e, api.Event{}) || errno != api.ErrForm && errno != api.ErrNone {
			t.Fatalf("Read of %.60q: %s, %d", b, brief(e), errno)
		}
		return
	}
	own, is := event.Write(e, some())
	if event.May(e, some()) != api.OK || is != api.OK || !bytes.Equal(own, b) {
		t.Fatalf("Read of %.60q: %s, which is written as %.60q", b, brief(e), own)
	}
}

// P6.3: all bytes that are made of some few.
func TestReadAll(t *testing.T) {
	few := []byte{0, 1, 2, 3, 4, 5, 6, 'a', 128, 255}
	read := map[api.Errno]int{}
	var walk func(b []byte, deep int)
	walk = func(b []byte, deep int) {
		e, errno := event.Read(b, some())
		read[errno]++
		wantCanon(t, b, e, errno)
		if deep == 0 {
			return
		}
		for _, c := range few {
			walk(append(b[:len(b):len(b)], c), deep-1)
		}
	}
	walk(nil, 5)
	for _, head := range []string{"\x03\x04pair", "\x04\x05pairs", "\x05\x06people", "\x06\x01\x01a", "\x06\x03\x01a", "\x06\x04\x01a", "\x06\x05\x01a"} {
		walk([]byte(head), 4)
	}
	walk([]byte("\x06\x01\x01a\x01\x01\x01a"), 3)
	if len(read) != 3 || read[api.OK] < 100 || read[api.ErrForm] < 100 || read[api.ErrNone] < 100 {
		t.Error(read)
	}
}

// P6.2: Same asks for all fields, and for nothing else.
func TestSame(t *testing.T) {
	base := func() api.Event {
		return api.Event{Kind: 1, Number: 2, Table: "a", Before: api.Row{whole(1), text("b")}, After: api.Row{flag(1)},
			Change: api.Change{Kind: 3, Table: "c", Schema: of(1, must("d", api.Int), may("e", api.Text)), Column: may("f", api.Bool)}}
	}
	if !event.Same(base(), base()) || !event.Same(api.Event{}, api.Event{}) {
		t.Error("an event is not the same as itself")
	}
	for i, f := range []func(*api.Event){
		func(e *api.Event) { e.Kind = 2 }, func(e *api.Event) { e.Number = -2 }, func(e *api.Event) { e.Table = "" },
		func(e *api.Event) { e.Before[0].Number = 2 }, func(e *api.Event) { e.Before[1].Text = "" }, func(e *api.Event) { e.Before[1].Kind = 4 },
		func(e *api.Event) { e.Before = e.Before[:1] }, func(e *api.Event) { e.Before = nil }, func(e *api.Event) { e.Before = append(e.Before, null()) },
		func(e *api.Event) { e.After[0].Number = 0 }, func(e *api.Event) { e.After = nil }, func(e *api.Event) { e.After = append(e.After, null()) },
		func(e *api.Event) { e.Before, e.After = e.After, e.Before },
		func(e *api.Event) { e.Change.Kind = 4 }, func(e *api.Event) { e.Change.Table = "cc" }, func(e *api.Event) { e.Change.Schema.Keys = 2 },
		func(e *api.Event) { e.Change.Schema.Columns[1].None = false }, func(e *api.Event) { e.Change.Schema.Columns[0].Name = "D" },
		func(e *api.Event) { e.Change.Schema.Columns = e.Change.Schema.Columns[:1] }, func(e *api.Event) { slices.Reverse(e.Change.Schema.Columns) },
		func(e *api.Event) { e.Change.Column.Name = "g" }, func(e *api.Event) { e.Change.Column.Kind = 2 }, func(e *api.Event) { e.Change.Column.None = false },
		func(e *api.Event) { *e = api.Event{} },
	} {
		other := base()
		f(&other)
		if event.Same(base(), other) || event.Same(other, base()) || !event.Same(other, other) {
			t.Error(i)
		}
	}
	empty := api.Event{Before: api.Row{}, After: api.Row{}, Change: api.Change{Schema: api.Schema{Columns: []api.Column{}}}}
	if !event.Same(empty, api.Event{}) || !event.Same(api.Event{}, empty) {
		t.Error("an empty list is not the same as none")
	}
	l := events()
	for i := range l {
		for j := range l {
			if event.Same(l[i], l[j]) != bytes.Equal(plain(l[i]), plain(l[j])) {
				t.Fatalf("Same of %s and %s", brief(l[i]), brief(l[j]))
			}
		}
	}
}

// R4: nothing that is handed in is changed, and what is answered is new memory.
func TestEventsAreNew(t *testing.T) {
	l, was := some(), some()
	for i, e := range events() {
		b, _ := event.Write(e, l)
		again, _ := event.Write(e, l)
		first, _ := event.Read(b, l)
		second, _ := event.Read(b, l)
		clear(first.After[:cap(first.After)])
		clear(first.Before[:cap(first.Before)])
		columns := first.Change.Schema.Columns
		clear(columns[:cap(columns)])
		if !bytes.Equal(b, again) || !event.Same(second, e) {
			t.Fatalf("%s: memory is shared, or changed", brief(e))
		}
		clear(b[:cap(b)])
		if !event.Same(second, e) || !bytes.Equal(again, plain(e)) || !event.Same(e, events()[i]) {
			t.Fatalf("%s: memory is shared, or changed", brief(e))
		}
	}
	if !slices.EqualFunc(l, was, sameTable) {
		t.Errorf("tables are changed: %s", brief(l))
	}
}

// R1: no call panics, at tables that may not be and events that may not be.
func TestNoPanic(t *testing.T) {
	odd := [][]api.Table{nil, {{}}, {some()[3], some()[0], some()[1], some()[0]}, tables(200)}
	for _, s := range wrongSchemas() {
		odd = append(odd, []api.Table{{Name: "a", Schema: s}, {Name: "pair", Schema: s}, {Name: "people", Schema: s}})
	}
	own := events()
	for _, n := range []int{0, -1, math.MinInt64, math.MaxInt64} {
		own = append(own, marked(n, n), alter(api.Change{Kind: n, Table: "pair"}), insert("pair", api.Value{Kind: n, Number: n}), remove("a", api.Value{Kind: n, Number: n}), insert("a"), remove("a"))
	}
	for _, l := range odd {
		event.Right(l)
		event.Find(l, "a")
		for _, e := range own {
			event.May(e, l)
			event.Follow(l, e.Change)
			if b, errno := event.Write(e, l); errno != api.OK && b != nil {
				t.Fatalf("Write of %s: %.60q, %d", brief(e), b, errno)
			}
		}
		for _, e := range events() {
			if got, errno := event.Read(plain(e), l); errno != api.OK && !event.Same(got, api.Event{}) {
				t.Fatalf("Read of %s: %s, %d", brief(e), brief(got), errno)
			}
		}
	}
}
