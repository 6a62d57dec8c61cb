package source_test

import (
	"hash/crc32"
	"math"
	"slices"
	"strings"
	"testing"

	"pantograph/api"
	"pantograph/binlog"
	"pantograph/event"
	"pantograph/schema"
	"pantograph/source"
)

func num(n int) api.Value     { return api.Value{Kind: api.Int, Number: n} }
func text(s string) api.Value { return api.Value{Kind: api.Text, Text: s} }

// person is a row of people.
func person(id int, name string) api.Row { return api.Row{num(id), text(name)} }

// people is a table's schema: id is its key, and name may be Null.
func people() api.Schema {
	return api.Schema{Keys: 1, Columns: []api.Column{{Name: "id", Kind: api.Int}, {Name: "name", Kind: api.Text, None: true}}}
}

// pairs is a table's schema, with a key of two columns.
func pairs() api.Schema {
	return api.Schema{Keys: 2, Columns: []api.Column{
		{Name: "s", Kind: api.Text}, {Name: "b", Kind: api.Bool}, {Name: "x", Kind: api.Bytes, None: true},
	}}
}

func creates(table string, s api.Schema) api.Change {
	return api.Change{Kind: api.Create, Table: table, Schema: s}
}

func inserts(table string, row ...api.Value) api.Deed {
	return api.Deed{Kind: api.DoInsert, Table: table, Row: row}
}

func updates(table string, row ...api.Value) api.Deed {
	return api.Deed{Kind: api.DoUpdate, Table: table, Row: row}
}

func deletes(table string, key ...api.Value) api.Deed {
	return api.Deed{Kind: api.DoDelete, Table: table, Row: key}
}

// ofNumber is an event that has a number alone.
func ofNumber(kind, n int) api.Event { return api.Event{Kind: kind, Number: n} }

// ofChange is an Alter.
func ofChange(c api.Change) api.Event { return api.Event{Kind: api.Alter, Change: c} }

// ofDeed is the event of a deed.
func ofDeed(d api.Deed) api.Event {
	switch d.Kind {
	case api.DoInsert:
		return api.Event{Kind: api.Insert, Table: d.Table, After: d.Row}
	case api.DoUpdate:
		return api.Event{Kind: api.Update, Table: d.Table, After: d.Row}
	}
	return api.Event{Kind: api.Delete, Table: d.Table, Before: d.Row}
}

// want checks what a call told.
func want(t *testing.T, got, errno api.Errno) {
	t.Helper()
	if got != errno {
		t.Errorf("told %d, not %d", got, errno)
	}
}

func sameRows(a, b []api.Row) bool {
	return slices.EqualFunc(a, b, func(a, b api.Row) bool { return slices.Equal(a, b) })
}

func sameTables(a, b []api.Table) bool {
	return slices.EqualFunc(a, b, func(a, b api.Table) bool { return a.Name == b.Name && schema.Same(a.Schema, b.Schema) })
}

// wantRows checks a table's rows.
func wantRows(t *testing.T, s *source.Source, table string, l ...api.Row) {
	t.Helper()
	if got := s.Rows(table); !sameRows(got, l) {
		t.Errorf("Rows of %s: %v, not %v", table, got, l)
	}
	if got, errno := s.Some(table, "", math.MaxInt); !sameRows(got, l) || errno != api.OK {
		t.Errorf("Some of %s: %v, %d, not %v", table, got, errno, l)
	}
}

// wantTables checks the tables: names, and schemas.
func wantTables(t *testing.T, s *source.Source, l ...api.Table) {
	t.Helper()
	if got := s.Tables(); !sameTables(got, l) {
		t.Errorf("Tables: %v, not %v", got, l)
	}
}

// wantLog checks the log: it has just l behind its Start.
func wantLog(t *testing.T, s *source.Source, l ...api.Event) {
	t.Helper()
	b := s.Log()
	got, at, errno := binlog.Events(b)
	if errno != api.ErrNone || at != len(b) || s.Size() != len(b) {
		t.Errorf("the log is not whole: %d, at %d of %d, Size %d", errno, at, len(b), s.Size())
	}
	if !slices.EqualFunc(got, append([]api.Event{ofNumber(api.Start, 1)}, l...), event.Same) {
		t.Errorf("log: %v, not %v", got, l)
	}
}

// kept is what all calls tell of a source, in memory of its own.
type kept struct {
	log    []byte
	many   int
	tables []api.Table
	rows   [][]api.Row
}

func keptOf(s *source.Source) kept {
	k := kept{log: slices.Clone(s.Log()), many: s.Many()}
	for _, t := range s.Tables() {
		k.tables = append(k.tables, api.Table{Name: t.Name, Schema: schema.Clone(t.Schema)})
		var l []api.Row
		for _, row := range s.Rows(t.Name) {
			l = append(l, slices.Clone(row))
		}
		k.rows = append(k.rows, l)
	}
	return k
}

// wantKept checks that a source is as it was.
func wantKept(t *testing.T, s *source.Source, k kept) {
	t.Helper()
	now := keptOf(s)
	if !slices.Equal(now.log, k.log) || s.Size() != len(k.log) || now.many != k.many {
		t.Errorf("log %v, Size %d, Many %d; not %v, %d", now.log, s.Size(), now.many, k.log, k.many)
	}
	if !sameTables(now.tables, k.tables) || !slices.EqualFunc(now.rows, k.rows, sameRows) {
		t.Errorf("%v, %v; not %v, %v", now.tables, now.rows, k.tables, k.rows)
	}
}

// made is a source with people (1 Ada, 3 of no name) and pairs (b false).
func made(t *testing.T) *source.Source {
	t.Helper()
	s := source.New()
	want(t, s.Alter(creates("people", people())), api.OK)
	want(t, s.Alter(creates("pairs", pairs())), api.OK)
	want(t, s.Do([]api.Deed{
		inserts("people", num(3), api.Value{}), inserts("people", person(1, "Ada")...), inserts("pairs", pair()...),
	}), api.OK)
	return s
}

// pair is the row of pairs that made has.
func pair() api.Row { return api.Row{text("b"), {Kind: api.Bool}, {Kind: api.Bytes, Text: "\x00\xff"}} }

// P10.1: a new source has no tables, and a log of the Start alone.
func TestNew(t *testing.T) {
	s := source.New()
	if b := s.Log(); !slices.Equal(b, binlog.New()) || s.Size() != len(b) || s.Many() != 0 {
		t.Errorf("log %v, Size %d, Many %d", b, s.Size(), s.Many())
	}
	wantTables(t, s)
	wantLog(t, s)
	if l := s.Rows("t"); len(l) != 0 {
		t.Errorf("Rows: %v", l)
	}
	if l, errno := s.Some("t", "", 5); len(l) != 0 || errno != api.ErrNone {
		t.Errorf("Some: %v, %d", l, errno)
	}
	other := source.New()
	want(t, other.Alter(creates("t", people())), api.OK)
	wantTables(t, s)
	wantLog(t, s)
}

// The chapter's example.
func TestExample(t *testing.T) {
	s := source.New()
	want(t, s.Alter(creates("t", people())), api.OK)
	want(t, s.Do([]api.Deed{inserts("t", person(5, "x")...)}), api.OK)
	wantRows(t, s, "t", person(5, "x"))
	if s.Many() != 2 {
		t.Errorf("Many: %d", s.Many())
	}
	wantLog(t, s,
		ofNumber(api.Begin, 0), ofChange(creates("t", people())), ofNumber(api.Commit, 0),
		ofNumber(api.Begin, 1), ofDeed(inserts("t", person(5, "x")...)), ofNumber(api.Commit, 1))
}

// frames is bodies' frames, with checks that are not the program's own.
func frames(bodies ...string) string {
	b := ""
	for _, body := range bodies {
		sum := crc32.ChecksumIEEE([]byte(body))
		b += string([]byte{byte(len(body))}) + body + string([]byte{byte(sum), byte(sum >> 8), byte(sum >> 16), byte(sum >> 24)})
	}
	return b
}

// P10.1, P10.2: the log's bytes.
func TestBytes(t *testing.T) {
	s := source.New()
	want(t, s.Alter(creates("t", people())), api.OK)
	want(t, s.Do([]api.Deed{inserts("t", num(1), api.Value{}), updates("t", person(1, "a")...)}), api.OK)
	want(t, s.Undo([]api.Deed{deletes("t", num(1))}), api.OK)
	want(t, s.Mark(false, 300), api.OK)
	want(t, s.Mark(true, 300), api.OK)
	all := frames("\x01\x01",
		"\x02\x00", "\x06\x01\x01t\x01\x02\x02id\x02\x00\x04name\x03\x01", "\x07\x00",
		"\x02\x01", "\x03\x01t\x02\x02", "\x04\x01t\x00\x02\x01a", "\x07\x01",
		"\x02\x02", "\x05\x01t\x00\x02", "\x08\x02",
		"\x09\xac\x02", "\x0a\xac\x02")
	if b := s.Log(); string(b) != all || s.Size() != len(all) {
		t.Errorf("log: %q, Size %d; not %q", b, s.Size(), all)
	}
}

// P10.1: deeds are done, and told.
func TestDo(t *testing.T) {
	s := source.New()
	want(t, s.Alter(creates("people", people())), api.OK)
	want(t, s.Alter(creates("pairs", pairs())), api.OK)
	told := []api.Event{
		ofNumber(api.Begin, 0), ofChange(creates("people", people())), ofNumber(api.Commit, 0),
		ofNumber(api.Begin, 1), ofChange(creates("pairs", pairs())), ofNumber(api.Commit, 1),
	}
	steps := []struct {
		deeds  []api.Deed
		people []api.Row
		pairs  []api.Row
	}{
		{[]api.Deed{inserts("people", person(2, "two")...)}, []api.Row{person(2, "two")}, nil},
		{[]api.Deed{inserts("people", person(-1, "")...), inserts("pairs", pair()...)}, []api.Row{person(-1, ""), person(2, "two")}, []api.Row{pair()}},
		{[]api.Deed{updates("people", num(2), api.Value{})}, []api.Row{person(-1, ""), {num(2), {}}}, []api.Row{pair()}},
		{nil, []api.Row{person(-1, ""), {num(2), {}}}, []api.Row{pair()}},
		{[]api.Deed{deletes("people", num(-1)), deletes("pairs", text("b"), api.Value{Kind: api.Bool})}, []api.Row{{num(2), {}}}, nil},
		{[]api.Deed{updates("people", person(2, "two")...), updates("people", person(2, "two")...)}, []api.Row{person(2, "two")}, nil},
		{[]api.Deed{inserts("people", person(math.MinInt, "a")...), inserts("people", person(math.MaxInt, "z")...)}, []api.Row{person(math.MinInt, "a"), person(2, "two"), person(math.MaxInt, "z")}, nil},
	}
	for i, c := range steps {
		want(t, s.Do(c.deeds), api.OK)
		wantRows(t, s, "people", c.people...)
		wantRows(t, s, "pairs", c.pairs...)
		told = append(told, ofNumber(api.Begin, i+2))
		for _, d := range c.deeds {
			told = append(told, ofDeed(d))
		}
		told = append(told, ofNumber(api.Commit, i+2))
		wantLog(t, s, told...)
		if s.Many() != i+3 {
			t.Errorf("Many behind step %d: %d", i, s.Many())
		}
	}
	wantTables(t, s, api.Table{Name: "pairs", Schema: pairs()}, api.Table{Name: "people", Schema: people()})
}

// P10.1: each deed meets what those ahead of it made.
func TestBehindOneAnother(t *testing.T) {
	ins, upd, del := inserts("people", person(2, "i")...), updates("people", person(2, "u")...), deletes("people", num(2))
	for _, c := range []struct {
		deeds []api.Deed
		errno api.Errno
		row   api.Row
	}{
		{[]api.Deed{ins}, api.OK, ins.Row},
		{[]api.Deed{ins, upd}, api.OK, upd.Row},
		{[]api.Deed{ins, upd, upd}, api.OK, upd.Row},
		{[]api.Deed{ins, del}, api.OK, nil},
		{[]api.Deed{ins, del, ins}, api.OK, ins.Row},
		{[]api.Deed{ins, upd, del, ins, upd}, api.OK, upd.Row},
		{[]api.Deed{ins, ins}, api.ErrExist, nil},
		{[]api.Deed{ins, upd, ins}, api.ErrExist, nil},
		{[]api.Deed{ins, del, upd}, api.ErrState, nil},
		{[]api.Deed{ins, del, del}, api.ErrState, nil},
		{[]api.Deed{upd, ins}, api.ErrState, nil},
		{[]api.Deed{del, ins}, api.ErrState, nil},
	} {
		for _, undo := range []bool{false, true} {
			s := made(t)
			k := keptOf(s)
			if undo {
				want(t, s.Undo(c.deeds), c.errno)
			} else {
				want(t, s.Do(c.deeds), c.errno)
			}
			switch {
			case c.errno != api.OK:
				wantKept(t, s, k)
			case undo || c.row == nil:
				wantRows(t, s, "people", person(1, "Ada"), api.Row{num(3), {}})
			default:
				wantRows(t, s, "people", person(1, "Ada"), c.row, api.Row{num(3), {}})
			}
		}
	}
}

// wrongDeeds is deeds that can't be done in made's source, and why; where more
// than one error applies, it is the first one's turn.
func wrongDeeds() []struct {
	deed  api.Deed
	errno api.Errno
} {
	bit := api.Value{Kind: api.Bool}
	long := text(strings.Repeat("a", api.MaxText+1))
	return []struct {
		deed  api.Deed
		errno api.Errno
	}{
		{api.Deed{}, api.ErrKind},
		{api.Deed{Kind: 4, Table: "people", Row: person(2, "x")}, api.ErrKind},
		{api.Deed{Kind: -1, Table: "none", Row: nil}, api.ErrKind},
		{api.Deed{Kind: math.MaxInt, Table: "people", Row: api.Row{num(1)}}, api.ErrKind},
		{inserts("none", person(2, "x")...), api.ErrNone},
		{updates("none", person(1, "x")...), api.ErrNone},
		{deletes("none", num(1)), api.ErrNone},
		{inserts("", num(1)), api.ErrNone},
		{updates("peopl", num(1)), api.ErrNone},
		{deletes("people ", person(1, "x")...), api.ErrNone},
		{inserts("People", person(2, "x")...), api.ErrNone},
		{inserts("people"), api.ErrRow},
		{inserts("people", num(2)), api.ErrRow},
		{inserts("people", num(2), text("x"), text("y")), api.ErrRow},
		{inserts("people", text("2"), text("x")), api.ErrRow},
		{inserts("people", api.Value{}, text("x")), api.ErrRow},
		{inserts("people", num(2), num(2)), api.ErrRow},
		{inserts("people", num(2), text("\xff")), api.ErrRow},
		{inserts("people", num(2), long), api.ErrRow},
		{inserts("people", api.Value{Kind: api.Int, Number: 2, Text: "2"}, text("x")), api.ErrRow},
		{inserts("people", num(1), num(1)), api.ErrRow},
		{updates("people", num(1)), api.ErrRow},
		{updates("people", num(1), text("x"), api.Value{}), api.ErrRow},
		{updates("people", num(2), num(2)), api.ErrRow},
		{updates("people", num(1), api.Value{Kind: api.Bytes}), api.ErrRow},
		{updates("pairs", text("b"), bit, api.Value{Kind: api.Text}), api.ErrRow},
		{deletes("people"), api.ErrRow},
		{deletes("people", person(1, "Ada")...), api.ErrRow},
		{deletes("people", text("1")), api.ErrRow},
		{deletes("people", api.Value{}), api.ErrRow},
		{deletes("people", person(7, "x")...), api.ErrRow},
		{deletes("pairs", text("b")), api.ErrRow},
		{deletes("pairs", text("b"), num(0)), api.ErrRow},
		{deletes("pairs", text("b"), api.Value{Kind: api.Bool, Number: 2}), api.ErrRow},
		{deletes("pairs", pair()...), api.ErrRow},
		{inserts("people", person(1, "x")...), api.ErrExist},
		{inserts("people", person(1, "Ada")...), api.ErrExist},
		{inserts("people", num(3), api.Value{}), api.ErrExist},
		{inserts("pairs", text("b"), bit, api.Value{}), api.ErrExist},
		{updates("people", person(2, "x")...), api.ErrState},
		{updates("pairs", text("b"), api.Value{Kind: api.Bool, Number: 1}, api.Value{}), api.ErrState},
		{updates("pairs", text(""), bit, api.Value{}), api.ErrState},
		{deletes("people", num(2)), api.ErrState},
		{deletes("people", num(math.MinInt)), api.ErrState},
		{deletes("pairs", text("b\x00"), bit), api.ErrState},
	}
}

// P10.1: a deed that can't be done: nothing is done, be it Do or Undo.
func TestWrongDeeds(t *testing.T) {
	s := made(t)
	k := keptOf(s)
	for _, c := range wrongDeeds() {
		good, other := inserts("people", person(9, "x")...), updates("people", person(1, "Bob")...)
		for _, l := range [][]api.Deed{{c.deed}, {good, c.deed}, {c.deed, other}, {good, other, c.deed, deletes("people", num(9))}} {
			for _, does := range []func([]api.Deed) api.Errno{s.Do, s.Undo} {
				if errno := does(l); errno != c.errno {
					t.Errorf("%v: %d, not %d", l, errno, c.errno)
				}
				wantKept(t, s, k)
			}
		}
	}
	// The numbers go on as if nothing had been asked.
	want(t, s.Do(nil), api.OK)
	if !strings.HasSuffix(string(s.Log()), frames("\x02\x03", "\x07\x03")) {
		t.Error("a transaction that can't be done took a number")
	}
}

// P10.1: of several deeds that can't be done it is the first one's error.
func TestFirstWrong(t *testing.T) {
	s := made(t)
	k := keptOf(s)
	for _, a := range wrongDeeds() {
		for _, b := range wrongDeeds() {
			l := []api.Deed{updates("people", person(1, "Bob")...), a.deed, b.deed}
			want(t, s.Do(l), a.errno)
			want(t, s.Undo(l), a.errno)
		}
	}
	wantKept(t, s, k)
}

// P10.1: Undo tells all, and nothing is done.
func TestUndo(t *testing.T) {
	s := made(t)
	k := keptOf(s)
	deeds := []api.Deed{
		inserts("people", person(2, "two")...), updates("people", person(1, "Bob")...), deletes("people", num(3)),
		deletes("pairs", pair()[:2]...), inserts("pairs", pair()...), inserts("people", person(3, "three")...),
	}
	own := ofNumber(api.Begin, 3)
	told := []api.Event{own}
	for _, d := range deeds {
		told = append(told, ofDeed(d))
	}
	told = append(told, ofNumber(api.Abort, 3))
	all, _, _ := binlog.Events(k.log)
	all = append(all[1:], told...)
	want(t, s.Undo(deeds), api.OK)
	wantLog(t, s, all...)
	wantRows(t, s, "people", person(1, "Ada"), api.Row{num(3), {}})
	wantRows(t, s, "pairs", pair())
	if s.Many() != 3 {
		t.Errorf("Many: %d", s.Many())
	}
	// The same again, and of no deeds; each takes a number.
	want(t, s.Undo(deeds), api.OK)
	want(t, s.Undo(nil), api.OK)
	told[0].Number, told[len(told)-1].Number = 4, 4
	all = append(append(all, told...), ofNumber(api.Begin, 5), ofNumber(api.Abort, 5))
	wantLog(t, s, all...)
	// What was taken back is not there: it can be done, and what is behind it too.
	want(t, s.Do([]api.Deed{updates("people", person(2, "two")...)}), api.ErrState)
	want(t, s.Do(deeds), api.OK)
	told[0].Number, told[len(told)-1] = 6, ofNumber(api.Commit, 6)
	wantLog(t, s, append(all, told...)...)
	wantRows(t, s, "people", person(1, "Bob"), person(2, "two"), person(3, "three"))
	if s.Many() != 4 {
		t.Errorf("Many: %d", s.Many())
	}
}

// P10.1, P10.2: a number for each transaction that is told, and for no other.
func TestNumbers(t *testing.T) {
	s := source.New()
	want(t, s.Undo(nil), api.OK)
	want(t, s.Mark(false, 7), api.OK)
	want(t, s.Do(nil), api.OK)
	want(t, s.Do([]api.Deed{{}}), api.ErrKind)
	want(t, s.Alter(api.Change{}), api.ErrArg)
	want(t, s.Alter(creates("t", people())), api.OK)
	want(t, s.Alter(creates("t", people())), api.ErrExist)
	want(t, s.Undo(nil), api.OK)
	want(t, s.Mark(true, 7), api.OK)
	want(t, s.Mark(true, -7), api.ErrArg)
	want(t, s.Do(nil), api.OK)
	wantLog(t, s,
		ofNumber(api.Begin, 0), ofNumber(api.Abort, 0), ofNumber(api.Low, 7),
		ofNumber(api.Begin, 1), ofNumber(api.Commit, 1),
		ofNumber(api.Begin, 2), ofChange(creates("t", people())), ofNumber(api.Commit, 2),
		ofNumber(api.Begin, 3), ofNumber(api.Abort, 3), ofNumber(api.High, 7),
		ofNumber(api.Begin, 4), ofNumber(api.Commit, 4))
	if s.Many() != 3 {
		t.Errorf("Many: %d", s.Many())
	}
}

// P10.1: many rows, many transactions, and many deeds of one.
func TestMany(t *testing.T) {
	s := source.New()
	want(t, s.Alter(creates("t", people())), api.OK)
	var l []api.Row
	for i := range 300 {
		want(t, s.Do([]api.Deed{inserts("t", person(i, "x")...)}), api.OK)
		l = append(l, person(i, "x"))
	}
	var deeds []api.Deed
	for i := 300; i < 3000; i++ {
		deeds = append(deeds, inserts("t", person(i, "y")...))
		l = append(l, person(i, "y"))
	}
	want(t, s.Undo(deeds), api.OK)
	wantRows(t, s, "t", l[:300]...)
	want(t, s.Do(deeds), api.OK)
	wantRows(t, s, "t", l...)
	want(t, s.Do(append(deeds, deeds[0])), api.ErrExist)
	if s.Many() != 302 {
		t.Errorf("Many: %d", s.Many())
	}
	all, _, errno := binlog.Events(s.Log())
	if last := all[len(all)-1]; errno != api.ErrNone || !event.Same(last, ofNumber(api.Commit, 302)) {
		t.Errorf("log: %d, last %v", errno, last)
	}
}
