package state_test

import (
	"bytes"
	"fmt"
	"maps"
	"slices"
	"strings"
	"testing"

	"pantograph/api"
	"pantograph/chunk"
	"pantograph/schema"
	"pantograph/state"
	"pantograph/value"
	"pantograph/wal"
)

func null() api.Value         { return api.Value{} }
func flag(n int) api.Value    { return api.Value{Kind: api.Bool, Number: n} }
func whole(n int) api.Value   { return api.Value{Kind: api.Int, Number: n} }
func text(s string) api.Value { return api.Value{Kind: api.Text, Text: s} }
func blob(s string) api.Value { return api.Value{Kind: api.Bytes, Text: s} }

// must is a column that has no Null, may is one that may have it.
func must(name string, kind int) api.Column { return api.Column{Name: name, Kind: kind} }
func may(name string, kind int) api.Column {
	return api.Column{Name: name, Kind: kind, None: true}
}

func of(keys int, l ...api.Column) api.Schema { return api.Schema{Columns: l, Keys: keys} }

// single is a schema of a key alone, pair has a column more, where Null may
// stand, people has a key of two columns.
func single() api.Schema { return of(1, must("id", api.Int)) }
func pair() api.Schema   { return of(1, must("id", api.Int), may("name", api.Text)) }
func people() api.Schema {
	return of(2, must("land", api.Text), must("id", api.Int), must("old", api.Bool), may("name", api.Text), may("face", api.Bytes))
}

// long is the longest name.
func long() string { return strings.Repeat("z", api.MaxName) }

func put(table string, row ...api.Value) api.Write {
	return api.Write{Kind: api.Put, Table: table, Row: row}
}
func off(table string, key ...api.Value) api.Write {
	return api.Write{Kind: api.Off, Table: table, Row: key}
}
func turn(c api.Change) api.Write { return api.Write{Kind: api.Turn, Change: c} }
func create(table string, s api.Schema) api.Write {
	return turn(api.Change{Kind: api.Create, Table: table, Schema: s})
}
func drop(table string) api.Write { return turn(api.Change{Kind: api.Drop, Table: table}) }
func add(table string, c api.Column) api.Write {
	return turn(api.Change{Kind: api.Add, Table: table, Column: c})
}
func cut(table, name string) api.Write {
	return turn(api.Change{Kind: api.Cut, Table: table, Column: api.Column{Name: name}})
}
func retype(table string, c api.Column) api.Write {
	return turn(api.Change{Kind: api.Retype, Table: table, Column: c})
}

// points is some points that may be, wrongPoints is some that may not be.
func points() []api.Point {
	works := []api.Work{{Table: "a", Done: true}, {Table: "pair", Key: "\x02\x80\x00\x00\x00\x00\x00\x00\x05"}, {Table: long()}}
	return []api.Point{{At: 300, Many: 2, Chunk: 1, Works: works}, {}, {At: 1, Many: 2, Chunk: 3}, {Many: 128, Works: works[:1]}}
}

func wrongPoints() []api.Point {
	return []api.Point{{At: -1}, {Many: -1}, {Chunk: -1}, {Works: []api.Work{{}}}, {Works: []api.Work{{Table: "b"}, {Table: "a"}}}, {Works: []api.Work{{Table: "a"}, {Table: "a"}}}, {Works: []api.Work{{Table: "a", Key: "x"}}}, {Works: []api.Work{{Table: "a", Done: true, Key: "\x00"}}}}
}

// someWrites makes a state of some tables and rows out of nothing; names begin
// with one another, and no row comes in the order of keys.
func someWrites() []api.Write {
	return []api.Write{
		create("people", people()), create("pair", pair()), create("pairs", single()), create("a", people()), create(long(), pair()),
		put("pair", whole(7), null()), put("pair", whole(-3), text("ä\x00€")), put("pair", whole(150), text("")),
		put("pairs", whole(7)), put("pairs", whole(0)),
		put("people", text("b"), whole(1), flag(0), null(), blob("\xff\x00")), put("people", text("a"), whole(2), flag(1), text("Ada"), null()), put("people", text("a\x00"), whole(-2), flag(1), null(), null()), put("people", text("a"), whole(-2), flag(0), text(""), blob("")),
		put(long(), whole(1), text("z")),
	}
}

// some is the state of someWrites, at the first of the points, and the same on
// paper.
func some(t *testing.T) (*state.State, *paper) {
	t.Helper()
	s, p := state.New(), &paper{}
	wantApply(t, s, p, someWrites(), points()[0])
	return s, p
}

// paper is a state on paper: of each table its page.
type paper struct {
	pages map[string]page
	point api.Point
}

// page is a table's schema, with its rows as the values of their keys rise.
type page struct {
	own  api.Schema
	rows []api.Row
}

// at is where the row of a key stands, or would stand, and whether it is there.
func (g page) at(key api.Row) (int, bool) {
	return slices.BinarySearchFunc(g.rows, key, func(a, key api.Row) int {
		return slices.CompareFunc(a[:g.own.Keys], key[:g.own.Keys], value.Compare)
	})
}

// names is the tables' names as they rise.
func (p *paper) names() []string { return slices.Sorted(maps.Keys(p.pages)) }

// tables is the tables.
func (p *paper) tables() []api.Table {
	var l []api.Table
	for _, name := range p.names() {
		l = append(l, api.Table{Name: name, Schema: p.pages[name].own})
	}
	return l
}

// len is how many rows there are.
func (p *paper) len() int {
	n := 0
	for _, g := range p.pages {
		n += len(g.rows)
	}
	return n
}

// apply does a group; chapter 14's error, and nothing is done, if it may not be.
func (p *paper) apply(writes []api.Write, point api.Point) api.Errno {
	if _, e := wal.Write(p.tables(), writes, point); e != api.OK {
		return e
	}
	for _, w := range writes {
		p.do(w)
	}
	p.point = point
	return api.OK
}

// do does a write that may be.
func (p *paper) do(w api.Write) {
	g := p.pages[w.Table]
	switch w.Kind {
	case api.Put:
		i, there := g.at(w.Row)
		if there {
			g.rows = slices.Delete(slices.Clone(g.rows), i, i+1)
		}
		g.rows = slices.Insert(slices.Clone(g.rows), i, w.Row)
	case api.Off:
		if i, there := g.at(w.Row); there {
			g.rows = slices.Delete(slices.Clone(g.rows), i, i+1)
		}
	case api.Turn:
		p.turn(w.Change)
		return
	}
	p.pages[w.Table] = g
}

// turn does a change that can be followed.
func (p *paper) turn(c api.Change) {
	g := p.pages[c.Table]
	switch c.Kind {
	case api.Create:
		if p.pages == nil {
			p.pages = map[string]page{}
		}
		p.pages[c.Table] = page{own: c.Schema}
		return
	case api.Drop:
		delete(p.pages, c.Table)
		return
	}
	at := schema.Find(g.own, c.Column.Name)
	columns, rows := slices.Clone(g.own.Columns), []api.Row(nil)
	switch c.Kind {
	case api.Add:
		columns = append(columns, c.Column)
	case api.Cut:
		columns = slices.Delete(columns, at, at+1)
	case api.Retype:
		columns[at].Kind = c.Column.Kind
	}
	for _, row := range g.rows {
		row = slices.Clone(row)
		switch c.Kind {
		case api.Add:
			row = append(row, null())
		case api.Cut:
			row = slices.Delete(row, at, at+1)
		case api.Retype:
			row[at] = null()
		}
		rows = append(rows, row)
	}
	p.pages[c.Table] = page{api.Schema{Columns: columns, Keys: g.own.Keys}, rows}
}

// bytes is a group's that makes the state out of nothing.
func (p *paper) bytes() []byte {
	var writes []api.Write
	for _, t := range p.tables() {
		writes = append(writes, create(t.Name, t.Schema))
	}
	for _, name := range p.names() {
		for _, row := range p.pages[name].rows {
			writes = append(writes, put(name, row...))
		}
	}
	b, e := wal.Write(nil, writes, p.point)
	if e != api.OK {
		panic(e)
	}
	return b
}

// clone is a paper of its own.
func (p *paper) clone() *paper { return &paper{maps.Clone(p.pages), p.point} }

func sameRow(a, b api.Row) bool     { return slices.Equal(a, b) }
func sameRows(a, b []api.Row) bool  { return slices.EqualFunc(a, b, sameRow) }
func sameTable(a, b api.Table) bool { return a.Name == b.Name && schema.Same(a.Schema, b.Schema) }

// brief is the beginning of a thing, to be printed.
func brief(x any) string {
	s := fmt.Sprintf("%q", fmt.Sprint(x))
	return s[:min(len(s), 400)]
}

// wantSame checks all that is told of a state.
func wantSame(t *testing.T, s *state.State, p *paper) {
	t.Helper()
	if l := s.Tables(); !slices.EqualFunc(l, p.tables(), sameTable) {
		t.Fatalf("Tables: %s, not %s", brief(l), brief(p.tables()))
	}
	if at := s.Point(); !chunk.Same(at, p.point) {
		t.Fatalf("Point: %v, not %v", at, p.point)
	}
	if n := s.Len(); n != p.len() {
		t.Fatalf("Len: %d, not %d", n, p.len())
	}
	for name, g := range p.pages {
		if l := s.Rows(name); !sameRows(l, g.rows) {
			t.Fatalf("Rows of %s: %s, not %s", name, brief(l), brief(g.rows))
		}
		for _, row := range g.rows {
			wantRow(t, s, name, row[:g.own.Keys], row)
		}
	}
	if b := s.Bytes(); !bytes.Equal(b, p.bytes()) {
		t.Fatalf("Bytes: %.300q, not %.300q", b, p.bytes())
	}
}

// wantRow checks what stands at the key of some values: none, if row is nil.
func wantRow(t *testing.T, s *state.State, table string, key []api.Value, row api.Row) {
	t.Helper()
	k, e := value.Key(key)
	if e != api.OK {
		t.Fatalf("%v: no key: %d", key, e)
	}
	if got, ok := s.Get(table, k); ok != (row != nil) || !sameRow(got, row) {
		t.Fatalf("Get of %s at %v: %s, %t, not %s", table, key, brief(got), ok, brief(row))
	}
}

// wantApply checks that a group is done.
func wantApply(t *testing.T, s *state.State, p *paper, writes []api.Write, point api.Point) {
	t.Helper()
	if want, e := p.apply(writes, point), s.Apply(writes, point); e != want || e != api.OK {
		t.Fatalf("Apply of %s, %v: %d, on paper %d", brief(writes), point, e, want)
	}
	wantSame(t, s, p)
}

// wantRefused checks that a group is not done, and why.
func wantRefused(t *testing.T, s *state.State, p *paper, errno api.Errno, point api.Point, writes ...api.Write) {
	t.Helper()
	if e := s.Apply(writes, point); e != errno {
		t.Fatalf("Apply of %s, %v: %d, not %d", brief(writes), point, e, errno)
	}
	wantSame(t, s, p)
}
