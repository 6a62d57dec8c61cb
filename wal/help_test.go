package wal_test

import (
	"bytes"
	"fmt"
	"math"
	"slices"
	"strings"
	"testing"

	"pantograph/api"
	"pantograph/chunk"
	"pantograph/image"
	"pantograph/lay"
	"pantograph/schema"
	"pantograph/wal"
)

func null() api.Value         { return api.Value{} }
func flag(n int) api.Value    { return api.Value{Kind: api.Bool, Number: n} }
func whole(n int) api.Value   { return api.Value{Kind: api.Int, Number: n} }
func text(s string) api.Value { return api.Value{Kind: api.Text, Text: s} }
func blob(s string) api.Value { return api.Value{Kind: api.Bytes, Text: s} }

// must is a column that has no Null, may is one that may have it.
func must(name string, kind int) api.Column { return api.Column{Name: name, Kind: kind} }
func may(name string, kind int) api.Column {
	return api.Column{Name: name, Kind: kind, None: true}
}

func of(keys int, l ...api.Column) api.Schema { return api.Schema{Columns: l, Keys: keys} }

// single is a schema of a key alone, pair has a column more, where Null may
// stand, people has a key of two columns.
func single() api.Schema { return of(1, must("id", api.Int)) }
func pair() api.Schema   { return of(1, must("id", api.Int), may("name", api.Text)) }
func people() api.Schema {
	return of(2, must("land", api.Text), must("id", api.Int), must("old", api.Bool), may("name", api.Text), may("face", api.Bytes))
}

// some is ordinary tables, with names that begin with one another.
func some() []api.Table {
	return []api.Table{{Name: "pair", Schema: pair()}, {Name: "pairs", Schema: single()}, {Name: "people", Schema: people()}, {Name: long(), Schema: single()}}
}

// tables is as many tables.
func tables(n int) []api.Table {
	var l []api.Table
	for i := range n {
		l = append(l, api.Table{Name: fmt.Sprintf("t%03d", i), Schema: single()})
	}
	return l
}

// long is the longest name.
func long() string { return strings.Repeat("z", api.MaxName) }

// wrongNames is texts that are no names, wrongSchemas is schemas that may not be.
func wrongNames() []string {
	return []string{"", "A", "1", "_", "a-", "a ", "ä", "a\x00", "Pair", long() + "z"}
}

func wrongSchemas() []api.Schema {
	return []api.Schema{{}, of(0, must("a", api.Int)), of(2, must("a", api.Int)), of(-1, must("a", api.Int)), of(1, may("a", api.Int)), of(1, must("A", api.Int)), of(1, must("a", api.Null)), of(1, must("a", 5)), of(1, must("a", api.Int), must("a", api.Int))}
}

func put(table string, row ...api.Value) api.Write {
	return api.Write{Kind: api.Put, Table: table, Row: row}
}
func off(table string, key ...api.Value) api.Write {
	return api.Write{Kind: api.Off, Table: table, Row: key}
}
func turn(c api.Change) api.Write { return api.Write{Kind: api.Turn, Change: c} }
func create(table string, s api.Schema) api.Write {
	return turn(api.Change{Kind: api.Create, Table: table, Schema: s})
}
func drop(table string) api.Write { return turn(api.Change{Kind: api.Drop, Table: table}) }
func add(table string, c api.Column) api.Write {
	return turn(api.Change{Kind: api.Add, Table: table, Column: c})
}
func cut(table, name string) api.Write {
	return turn(api.Change{Kind: api.Cut, Table: table, Column: api.Column{Name: name}})
}
func retype(table string, c api.Column) api.Write {
	return turn(api.Change{Kind: api.Retype, Table: table, Column: c})
}

// rows is some rows that fit a schema.
func rows(s api.Schema) []api.Row {
	values := map[int][]api.Value{
		api.Bool:  {flag(0), flag(1)},
		api.Int:   {whole(0), whole(-1), whole(150), whole(math.MinInt64), whole(math.MaxInt64)},
		api.Text:  {text(""), text("ä\x00€"), text("a"), text(strings.Repeat("x", api.MaxText))},
		api.Bytes: {blob(""), blob("\xff\x00\x01"), blob(strings.Repeat("\xff", api.MaxText))},
	}
	var l []api.Row
	for i := range 5 {
		var row api.Row
		for j, c := range s.Columns {
			own := values[c.Kind]
			v := own[(i+j)%len(own)]
			if c.None && (i == 1 || i > 1 && (i+j)%2 == 0) {
				v = null()
			}
			row = append(row, v)
		}
		l = append(l, row)
	}
	return l
}

// points is some points that may be, wrongPoints is some that may not be.
func points() []api.Point {
	works := []api.Work{{Table: "a", Done: true}, {Table: "pair", Key: "\x02\x80\x00\x00\x00\x00\x00\x00\x05"}, {Table: long()}}
	return []api.Point{{}, {At: 1, Many: 2, Chunk: 3}, {At: 300, Works: works[:1]}, {Many: math.MaxInt64, Chunk: 128, Works: works}}
}

func wrongPoints() []api.Point {
	return []api.Point{{At: -1}, {Many: -1}, {Chunk: math.MinInt64}, {Works: []api.Work{{}}}, {Works: []api.Work{{Table: "A"}}}, {Works: []api.Work{{Table: "b"}, {Table: "a"}}}, {Works: []api.Work{{Table: "a"}, {Table: "a"}}}, {Works: []api.Work{{Table: "a", Key: "x"}}}, {Works: []api.Work{{Table: "a", Done: true, Key: "\x00"}}}}
}

// paper is tables on paper: of each name its schema.
type paper map[string]api.Schema

func onPaper(l []api.Table) paper {
	p := paper{}
	for _, t := range l {
		p[t.Name] = t.Schema
	}
	return p
}

// list is the tables, in order.
func (p paper) list() []api.Table {
	var l []api.Table
	for name, s := range p {
		l = append(l, api.Table{Name: name, Schema: s})
	}
	slices.SortFunc(l, func(a, b api.Table) int { return strings.Compare(a.Name, b.Name) })
	return l
}

// do goes on behind a write as the chapter's words say it; nothing changes beside
// an error.
func (p paper) do(w api.Write) api.Errno {
	s, ok := p[w.Table]
	c := w.Change
	fits := false
	switch w.Kind {
	case api.Put:
		fits = schema.Fits(s, w.Row)
	case api.Off:
		_, e := schema.Key(s, w.Row)
		fits = e == api.OK && len(w.Row) == s.Keys
	case api.Turn:
		return p.turn(w)
	default:
		return api.ErrKind
	}
	switch {
	case !ok:
		return api.ErrNone
	case !fits:
		return api.ErrRow
	case c.Kind != 0 || c.Table != "" || len(c.Schema.Columns) > 0 || c.Schema.Keys != 0 || c.Column != api.Column{}:
		return api.ErrArg
	}
	return api.OK
}

func (p paper) turn(w api.Write) api.Errno {
	c := w.Change
	if c.Kind < api.Create || c.Kind > api.Retype {
		return api.ErrKind
	}
	if w.Table != "" || len(w.Row) > 0 || !mayTell(c) {
		return api.ErrArg
	}
	s, ok := p[c.Table]
	switch {
	case c.Kind == api.Create && ok:
		return api.ErrExist
	case c.Kind == api.Create && len(p) >= api.MaxTables:
		return api.ErrLimit
	case c.Kind == api.Create:
		p[c.Table] = c.Schema
		return api.OK
	case !ok:
		return api.ErrNone
	case c.Kind == api.Drop:
		delete(p, c.Table)
		return api.OK
	}
	behind, e := schema.Apply(s, c)
	if e == api.OK {
		p[c.Table] = behind
	}
	return e
}

// mayTell tells whether an event may tell a change of a kind that there is.
func mayTell(c api.Change) bool {
	named, kind := c.Column.Name != "", c.Column.Kind >= api.Bool && c.Column.Kind <= api.Bytes
	if c.Kind == api.Create {
		named, kind = true, c.Column == api.Column{}
	} else if len(c.Schema.Columns) > 0 || c.Schema.Keys != 0 {
		return false
	}
	switch c.Kind {
	case api.Create:
		return schema.Name(c.Table) && schema.May(c.Schema) && kind
	case api.Drop:
		return schema.Name(c.Table) && c.Column == api.Column{}
	case api.Cut:
		return schema.Name(c.Table) && schema.Name(c.Column.Name) && c.Column == api.Column{Name: c.Column.Name}
	}
	return schema.Name(c.Table) && named && schema.Name(c.Column.Name) && kind
}

// plain is a group's bytes as the chapter's words say them, of writes that may be.
func plain(l []api.Table, writes []api.Write, p api.Point) []byte {
	now := onPaper(l)
	b := lay.Number(nil, len(writes))
	for _, w := range writes {
		var body []byte
		switch w.Kind {
		case api.Put:
			body = image.Write(lay.Text([]byte{4}, w.Table), now[w.Table], w.Row)
		case api.Off:
			body = image.WriteKey(lay.Text([]byte{5}, w.Table), now[w.Table], w.Row)
		case api.Turn:
			body = slices.Concat([]byte{6}, plainChange(w.Change))
		}
		now.do(w)
		b = append(b, lay.Text(nil, string(body))...)
	}
	return append(b, plainPoint(p)...)
}

func plainChange(c api.Change) []byte {
	b := lay.Text([]byte{byte(c.Kind)}, c.Table)
	columns := c.Schema.Columns
	if c.Kind == api.Create {
		b = append(b, byte(c.Schema.Keys), byte(len(columns)))
	}
	if c.Kind == api.Add || c.Kind == api.Retype {
		columns = []api.Column{c.Column}
	}
	for _, column := range columns {
		none := map[bool]byte{true: 1}[column.None]
		b = append(lay.Text(b, column.Name), byte(column.Kind), none)
	}
	if c.Kind == api.Cut {
		b = lay.Text(b, c.Column.Name)
	}
	return b
}

func plainPoint(p api.Point) []byte {
	b := lay.Number(lay.Number(lay.Number(nil, p.At), p.Many), p.Chunk)
	b = lay.Number(b, len(p.Works))
	for _, w := range p.Works {
		b = lay.Text(b, w.Table)
		b = append(b, map[bool]byte{true: 1}[w.Done])
		b = lay.Text(b, w.Key)
	}
	return b
}

// equal is Same of two writes as the chapter's words say it.
func equal(a, b api.Write) bool {
	return a.Kind == b.Kind && a.Table == b.Table && slices.Equal(a.Row, b.Row) &&
		a.Change.Kind == b.Change.Kind && a.Change.Table == b.Change.Table && a.Change.Column == b.Change.Column &&
		a.Change.Schema.Keys == b.Change.Schema.Keys && slices.Equal(a.Change.Schema.Columns, b.Change.Schema.Columns)
}

func sameTable(a, b api.Table) bool { return a.Name == b.Name && schema.Same(a.Schema, b.Schema) }

// brief is the beginning of a thing, to be printed.
func brief(x any) string {
	s := fmt.Sprintf("%q", fmt.Sprint(x))
	return s[:min(len(s), 300)]
}

// wantBehind checks what tables come to behind writes.
func wantBehind(t *testing.T, l []api.Table, writes []api.Write, want []api.Table, errno api.Errno) {
	t.Helper()
	got, e := wal.Behind(l, writes)
	if e != errno || !slices.EqualFunc(got, want, sameTable) {
		t.Fatalf("%s behind %s: %s, %d, not %s, %d", brief(l), brief(writes), brief(got), e, brief(want), errno)
	}
}

// wantRefused checks that writes may not be, and why.
func wantRefused(t *testing.T, l []api.Table, errno api.Errno, writes ...api.Write) {
	t.Helper()
	wantBehind(t, l, writes, nil, errno)
	for _, p := range points() {
		if b, e := wal.Write(l, writes, p); e != errno || len(b) > 0 {
			t.Fatalf("Write of %s by %s: %.80q, %d, not %d", brief(writes), brief(l), b, e, errno)
		}
	}
	// What may not be is told later than that the point may not be.
	for _, p := range wrongPoints() {
		if b, e := wal.Write(l, writes, p); e != api.ErrArg || len(b) > 0 {
			t.Fatalf("Write of %s with %s: %.80q, %d", brief(writes), brief(p), b, e)
		}
	}
}

// wantRead checks that bytes are read as a group.
func wantRead(t *testing.T, l []api.Table, b []byte, writes []api.Write, p api.Point) {
	t.Helper()
	got, at, e := wal.Read(l, b)
	if e != api.OK || !slices.EqualFunc(got, writes, equal) || !chunk.Same(at, p) {
		t.Fatalf("Read of %.80q by %s: %s, %s, %d, not %s, %s", b, brief(l), brief(got), brief(at), e, brief(writes), brief(p))
	}
}

// wantForm checks that bytes are no group's.
func wantForm(t *testing.T, l []api.Table, b []byte) {
	t.Helper()
	if writes, p, e := wal.Read(l, b); e != api.ErrForm || len(writes) > 0 || !chunk.Same(p, api.Point{}) {
		t.Fatalf("Read of %.200q by %s: %s, %s, %d", b, brief(l), brief(writes), brief(p), e)
	}
}

// wantGroup checks the bytes of a group that may be, and that they are read as it.
func wantGroup(t *testing.T, l []api.Table, writes []api.Write, p api.Point) []byte {
	t.Helper()
	want := plain(l, writes, p)
	b, e := wal.Write(l, writes, p)
	if e != api.OK || !bytes.Equal(b, want) {
		t.Fatalf("Write of %s by %s: %.200q, %d, not %.200q", brief(writes), brief(l), b, e, want)
	}
	wantRead(t, l, b, writes, p)
	return b
}

// wantSettled checks that bytes are no group's, or just those of the one that is
// told; whether they are a group's.
func wantSettled(t *testing.T, l []api.Table, b []byte) bool {
	t.Helper()
	writes, p, e := wal.Read(l, b)
	if e != api.OK {
		wantForm(t, l, b)
		return false
	}
	again, e := wal.Write(l, writes, p)
	if e != api.OK || !bytes.Equal(again, b) {
		t.Fatalf("%.200q is read as %s, %s, whose bytes are %.200q, %d", b, brief(writes), brief(p), again, e)
	}
	return true
}
