package source_test

import (
	"fmt"
	"math"
	"slices"
	"strings"
	"testing"

	"pantograph/api"
	"pantograph/binlog"
	"pantograph/event"
	"pantograph/source"
)

func drops(table string) api.Change { return api.Change{Kind: api.Drop, Table: table} }

func adds(table, name string, kind int) api.Change {
	return api.Change{Kind: api.Add, Table: table, Column: api.Column{Name: name, Kind: kind, None: true}}
}

func cuts(table, name string) api.Change {
	return api.Change{Kind: api.Cut, Table: table, Column: api.Column{Name: name}}
}

func retypes(table, name string, kind int) api.Change {
	return api.Change{Kind: api.Retype, Table: table, Column: api.Column{Name: name, Kind: kind}}
}

// ofKinds is a schema of columns of those names, each a kind's, with None behind
// the key of one.
func ofKinds(names string, kinds ...int) api.Schema {
	s := api.Schema{Keys: 1}
	for i, name := range strings.Fields(names) {
		s.Columns = append(s.Columns, api.Column{Name: name, Kind: kinds[i], None: i > 0})
	}
	return s
}

// P10.2: the tables follow, the rows are turned, and the log is told, change by
// change.
func TestAlter(t *testing.T) {
	n, x := api.Value{}, text("x")
	name := api.Column{Name: "name", Kind: api.Text, None: true}
	raw := api.Column{Name: "name", Kind: api.Bytes, None: true}
	bit := api.Column{Name: "bit", Kind: api.Bool, None: true}
	more := api.Column{Name: "more", Kind: api.Int, None: true}
	with := func(l ...api.Column) api.Schema {
		return api.Schema{Keys: 1, Columns: append([]api.Column{{Name: "id", Kind: api.Int}, {Name: "own", Kind: api.Text}}, l...)}
	}
	s := source.New()
	want(t, s.Alter(creates("t", with(name))), api.OK)
	wantTables(t, s, api.Table{Name: "t", Schema: with(name)})
	wantRows(t, s, "t")
	want(t, s.Do([]api.Deed{inserts("t", num(7), x, n), inserts("t", num(-2), x, n), inserts("t", num(1), x, x)}), api.OK)
	told := wholeOf(t, s)
	for i, c := range []struct {
		change api.Change
		schema api.Schema
		rows   []api.Row
	}{
		{adds("t", "bit", api.Bool), with(name, bit), []api.Row{{num(-2), x, n, n}, {num(1), x, x, n}, {num(7), x, n, n}}},
		{retypes("t", "name", api.Bytes), with(raw, bit), []api.Row{{num(-2), x, n, n}, {num(1), x, n, n}, {num(7), x, n, n}}},
		{adds("t", "more", api.Int), with(raw, bit, more), []api.Row{{num(-2), x, n, n, n}, {num(1), x, n, n, n}, {num(7), x, n, n, n}}},
		{cuts("t", "name"), with(bit, more), []api.Row{{num(-2), x, n, n}, {num(1), x, n, n}, {num(7), x, n, n}}},
		{cuts("t", "own"), ofKinds("id bit more", api.Int, api.Bool, api.Int), []api.Row{{num(-2), n, n}, {num(1), n, n}, {num(7), n, n}}},
	} {
		want(t, s.Alter(c.change), api.OK)
		wantTables(t, s, api.Table{Name: "t", Schema: c.schema})
		wantRows(t, s, "t", c.rows...)
		told = append(told, ofNumber(api.Begin, i+2), ofChange(c.change), ofNumber(api.Commit, i+2))
		wantLog(t, s, told...)
		if s.Many() != i+3 {
			t.Errorf("Many behind change %d: %d", i, s.Many())
		}
	}
	// The rows are of the new schema, at the keys that they had.
	want(t, s.Do([]api.Deed{updates("t", num(1), x, n, n)}), api.ErrRow)
	want(t, s.Do([]api.Deed{inserts("t", num(1), n, num(7))}), api.ErrExist)
	want(t, s.Do([]api.Deed{updates("t", num(1), n, num(7)), deletes("t", num(7))}), api.OK)
	wantRows(t, s, "t", api.Row{num(-2), n, n}, api.Row{num(1), n, num(7)})
}

// P10.2: a table that is dropped has no rows any more, even if it comes again;
// no change touches another table.
func TestDrop(t *testing.T) {
	s := made(t)
	want(t, s.Alter(drops("people")), api.OK)
	wantTables(t, s, api.Table{Name: "pairs", Schema: pairs()})
	wantRows(t, s, "pairs", pair())
	if l := s.Rows("people"); len(l) != 0 {
		t.Errorf("Rows of a table that is gone: %v", l)
	}
	if l, errno := s.Some("people", "", 9); len(l) != 0 || errno != api.ErrNone {
		t.Errorf("Some of a table that is gone: %v, %d", l, errno)
	}
	want(t, s.Do([]api.Deed{updates("people", person(1, "x")...)}), api.ErrNone)
	want(t, s.Alter(drops("people")), api.ErrNone)
	want(t, s.Alter(creates("people", people())), api.OK)
	wantRows(t, s, "people")
	want(t, s.Do([]api.Deed{inserts("people", person(1, "x")...)}), api.OK)
	want(t, s.Alter(adds("people", "more", api.Int)), api.OK)
	wantRows(t, s, "people", append(person(1, "x"), api.Value{}))
	wantRows(t, s, "pairs", pair())
	if s.Many() != 7 {
		t.Errorf("Many: %d", s.Many())
	}
	all, _, _ := binlog.Events(s.Log())
	if i := slices.IndexFunc(all, func(e api.Event) bool { return event.Same(e, ofChange(drops("people"))) }); i < 1 || !event.Same(all[i-1], ofNumber(api.Begin, 3)) || !event.Same(all[i+1], ofNumber(api.Commit, 3)) {
		t.Errorf("the Drop stands at %d of %v", i, all)
	}
}

// wrongChanges is changes that made's source can't do, and why.
func wrongChanges() []struct {
	change api.Change
	errno  api.Errno
} {
	long := strings.Repeat("a", api.MaxName+1)
	more := func(c api.Change, does func(*api.Change)) api.Change {
		does(&c)
		return c
	}
	return []struct {
		change api.Change
		errno  api.Errno
	}{
		// What no event may tell, whatever tables there are.
		{api.Change{}, api.ErrArg},
		{api.Change{Kind: 6, Table: "people"}, api.ErrArg},
		{api.Change{Kind: -1, Table: "none"}, api.ErrArg},
		{api.Change{Kind: math.MaxInt, Table: ""}, api.ErrArg},
		{creates("", people()), api.ErrArg},
		{creates("T", people()), api.ErrArg},
		{creates("1t", people()), api.ErrArg},
		{creates(long, people()), api.ErrArg},
		{creates("t", api.Schema{}), api.ErrArg},
		{creates("people", api.Schema{}), api.ErrArg},
		{creates("t", api.Schema{Keys: 3, Columns: people().Columns}), api.ErrArg},
		{more(creates("t", people()), func(c *api.Change) { c.Column.Name = "x" }), api.ErrArg},
		{more(creates("t", people()), func(c *api.Change) { c.Column.None = true }), api.ErrArg},
		{more(creates("people", people()), func(c *api.Change) { c.Column.Kind = api.Int }), api.ErrArg},
		{drops(""), api.ErrArg},
		{drops("people "), api.ErrArg},
		{drops(long), api.ErrArg},
		{more(drops("people"), func(c *api.Change) { c.Schema = people() }), api.ErrArg},
		{more(drops("none"), func(c *api.Change) { c.Schema.Keys = 1 }), api.ErrArg},
		{more(drops("people"), func(c *api.Change) { c.Column.Name = "name" }), api.ErrArg},
		{adds("", "x", api.Int), api.ErrArg},
		{adds("people", "", api.Int), api.ErrArg},
		{adds("people", "X", api.Int), api.ErrArg},
		{adds("people", "x", api.Null), api.ErrArg},
		{adds("people", "name", 5), api.ErrArg},
		{adds("none", "x", -1), api.ErrArg},
		{more(adds("people", "x", api.Int), func(c *api.Change) { c.Schema = people() }), api.ErrArg},
		{cuts("People", "name"), api.ErrArg},
		{cuts("people", ""), api.ErrArg},
		{cuts("people", long), api.ErrArg},
		{more(cuts("people", "name"), func(c *api.Change) { c.Column.Kind = api.Text }), api.ErrArg},
		{more(cuts("people", "name"), func(c *api.Change) { c.Column.None = true }), api.ErrArg},
		{more(cuts("none", "name"), func(c *api.Change) { c.Schema.Keys = 1 }), api.ErrArg},
		{retypes("people", "_", api.Int), api.ErrArg},
		{retypes("people", "name", api.Null), api.ErrArg},
		{retypes("people", "none", 5), api.ErrArg},
		{retypes("people", "id", 9), api.ErrArg},
		{more(retypes("people", "name", api.Int), func(c *api.Change) { c.Schema = people() }), api.ErrArg},
		// What an event may tell, but the tables can't follow.
		{creates("people", people()), api.ErrExist},
		{creates("pairs", people()), api.ErrExist},
		{drops("none"), api.ErrNone},
		{drops("peopl"), api.ErrNone},
		{adds("none", "x", api.Int), api.ErrNone},
		{cuts("none", "name"), api.ErrNone},
		{retypes("none", "name", api.Int), api.ErrNone},
		{more(adds("people", "x", api.Int), func(c *api.Change) { c.Column.None = false }), api.ErrArg},
		{more(adds("people", "name", api.Int), func(c *api.Change) { c.Column.None = false }), api.ErrArg},
		{adds("people", "name", api.Int), api.ErrExist},
		{adds("people", "id", api.Int), api.ErrExist},
		{cuts("people", "x"), api.ErrNone},
		{cuts("people", "id"), api.ErrSchema},
		{cuts("pairs", "b"), api.ErrSchema},
		{retypes("people", "x", api.Int), api.ErrNone},
		{retypes("people", "id", api.Text), api.ErrSchema},
		{retypes("pairs", "b", api.Bool), api.ErrSchema},
	}
}

// P10.2: a change that can't be done: nothing is done.
func TestWrongChanges(t *testing.T) {
	s := made(t)
	k := keptOf(s)
	for _, c := range wrongChanges() {
		if errno := s.Alter(c.change); errno != c.errno {
			t.Errorf("%v: %d, not %d", c.change, errno, c.errno)
		}
		wantKept(t, s, k)
	}
	want(t, s.Alter(drops("pairs")), api.OK)
	wantTables(t, s, api.Table{Name: "people", Schema: people()})
}

// P10.2: Retype leaves a column that has not None, and Cut takes it.
func TestNotNone(t *testing.T) {
	s := source.New()
	own := people()
	own.Columns[1].None = false
	want(t, s.Alter(creates("t", own)), api.OK)
	want(t, s.Do([]api.Deed{inserts("t", person(1, "a")...)}), api.OK)
	want(t, s.Alter(retypes("t", "name", api.Int)), api.ErrSchema)
	wantRows(t, s, "t", person(1, "a"))
	want(t, s.Alter(cuts("t", "name")), api.OK)
	wantRows(t, s, "t", api.Row{num(1)})
	// Retype asks nothing of its None: what the column has stays.
	want(t, s.Alter(adds("t", "x", api.Int)), api.OK)
	change := retypes("t", "x", api.Text)
	change.Column.None = true
	for _, c := range []api.Change{change, retypes("t", "x", api.Text)} {
		want(t, s.Do([]api.Deed{updates("t", num(1), api.Value{})}), api.OK)
		want(t, s.Alter(c), api.OK)
		wantTables(t, s, api.Table{Name: "t", Schema: ofKinds("id x", api.Int, api.Text)})
		wantRows(t, s, "t", api.Row{num(1), {}})
	}
}

// P10.2: as many tables, and columns, as may be, and one more.
func TestLimits(t *testing.T) {
	s := source.New()
	var all []api.Table
	for i := range api.MaxTables {
		name := fmt.Sprintf("t%02d", i*37%api.MaxTables)
		want(t, s.Alter(creates(name, people())), api.OK)
		want(t, s.Do([]api.Deed{inserts(name, person(i, name)...)}), api.OK)
		all = append(all, api.Table{Name: fmt.Sprintf("t%02d", i), Schema: people()})
	}
	k := keptOf(s)
	want(t, s.Alter(creates("more", people())), api.ErrLimit)
	want(t, s.Alter(creates("t00", people())), api.ErrExist)
	want(t, s.Alter(creates("more", api.Schema{})), api.ErrArg)
	wantKept(t, s, k)
	wantTables(t, s, all...)
	want(t, s.Alter(drops("t05")), api.OK)
	want(t, s.Alter(creates("a5", people())), api.OK)
	want(t, s.Alter(creates("t05", people())), api.ErrLimit)
	for i := range api.MaxColumns - 2 {
		want(t, s.Alter(adds("a5", fmt.Sprintf("c%d", i), api.Bool)), api.OK)
	}
	k = keptOf(s)
	want(t, s.Alter(adds("a5", "more", api.Int)), api.ErrSchema)
	want(t, s.Alter(adds("a5", "c3", api.Int)), api.ErrExist)
	wantKept(t, s, k)
}

// P10.2: marks are told, whatever their number, and are nothing else.
func TestMark(t *testing.T) {
	s := made(t)
	k := keptOf(s)
	all, _, _ := binlog.Events(k.log)
	told := all[1:]
	for _, n := range []int{0, 1, 1, 127, 128, 5, math.MaxInt, 0} {
		for _, high := range []bool{false, true, true, false} {
			want(t, s.Mark(high, n), api.OK)
			if high {
				told = append(told, ofNumber(api.High, n))
			} else {
				told = append(told, ofNumber(api.Low, n))
			}
		}
	}
	wantLog(t, s, told...)
	k.log = s.Log()
	wantKept(t, s, k)
	for _, n := range []int{-1, -300, math.MinInt} {
		want(t, s.Mark(false, n), api.ErrArg)
		want(t, s.Mark(true, n), api.ErrArg)
	}
	wantKept(t, s, k)
	want(t, s.Do(nil), api.OK)
	wantLog(t, s, append(told, ofNumber(api.Begin, 3), ofNumber(api.Commit, 3))...)
}
