package source_test

import (
	"fmt"
	"math/rand/v2"
	"slices"
	"strings"
	"testing"

	"pantograph/api"
	"pantograph/binlog"
	"pantograph/event"
	"pantograph/schema"
	"pantograph/source"
	"pantograph/value"
)

// paper is a source on paper: tables as their names rise, what the log is told
// behind its Start, and the two numbers.
type paper struct {
	pages      []page
	told       []api.Event
	next, many int
}

// page is a table, with its rows as the values of their keys rise.
type page struct {
	name string
	own  api.Schema
	rows []api.Row
}

// page is where a table stands, or would stand, and whether it is there.
func (p *paper) page(name string) (int, bool) {
	return slices.BinarySearchFunc(p.pages, name, func(g page, name string) int { return strings.Compare(g.name, name) })
}

// row is where the row of a key stands, or would stand, and whether it is there.
func (g *page) row(key api.Row) (int, bool) {
	return slices.BinarySearchFunc(g.rows, key, func(a, key api.Row) int {
		return slices.CompareFunc(a[:g.own.Keys], key[:g.own.Keys], value.Compare)
	})
}

// isKey tells whether a row is the values of a key, and no more.
func (g *page) isKey(row api.Row) bool {
	return len(row) == g.own.Keys && schema.Fits(api.Schema{Keys: g.own.Keys, Columns: g.own.Columns[:g.own.Keys]}, row)
}

// copied is a paper on which may be written.
func (p *paper) copied() paper {
	c := *p
	c.told, c.pages = slices.Clone(p.told), slices.Clone(p.pages)
	for i := range c.pages {
		c.pages[i].rows = slices.Clone(c.pages[i].rows)
	}
	return c
}

// deed does a deed.
func (p *paper) deed(d api.Deed) api.Errno {
	if d.Kind < api.DoInsert || d.Kind > api.DoDelete {
		return api.ErrKind
	}
	i, ok := p.page(d.Table)
	if !ok {
		return api.ErrNone
	}
	g := &p.pages[i]
	if d.Kind == api.DoDelete && !g.isKey(d.Row) || d.Kind != api.DoDelete && !schema.Fits(g.own, d.Row) {
		return api.ErrRow
	}
	j, there := g.row(d.Row)
	switch {
	case d.Kind == api.DoInsert && there:
		return api.ErrExist
	case d.Kind != api.DoInsert && !there:
		return api.ErrState
	case d.Kind == api.DoInsert:
		g.rows = slices.Insert(g.rows, j, d.Row)
	case d.Kind == api.DoUpdate:
		g.rows[j] = d.Row
	default:
		g.rows = slices.Delete(g.rows, j, j+1)
	}
	p.told = append(p.told, ofDeed(d))
	return api.OK
}

// deeds does a transaction of deeds, or one that is taken back.
func (p *paper) deeds(l []api.Deed, undo bool) api.Errno {
	c := p.copied()
	c.told = append(c.told, ofNumber(api.Begin, c.next))
	for _, d := range l {
		if errno := c.deed(d); errno != api.OK {
			return errno
		}
	}
	if undo {
		p.told = append(c.told, ofNumber(api.Abort, c.next))
		p.next++
		return api.OK
	}
	c.told = append(c.told, ofNumber(api.Commit, c.next))
	c.next++
	c.many++
	*p = c
	return api.OK
}

// alter changes a table; a change that an event may not tell it is never handed.
func (p *paper) alter(c api.Change) api.Errno {
	i, ok := p.page(c.Table)
	switch {
	case c.Kind == api.Create && ok:
		return api.ErrExist
	case c.Kind == api.Create && len(p.pages) == api.MaxTables:
		return api.ErrLimit
	case c.Kind == api.Create:
		p.pages = slices.Insert(p.pages, i, page{name: c.Table, own: schema.Clone(c.Schema)})
	case !ok:
		return api.ErrNone
	case c.Kind == api.Drop:
		p.pages = slices.Delete(p.pages, i, i+1)
	default:
		if errno := p.pages[i].alter(c); errno != api.OK {
			return errno
		}
	}
	p.told = append(p.told, ofNumber(api.Begin, p.next), ofChange(c), ofNumber(api.Commit, p.next))
	p.next++
	p.many++
	return api.OK
}

// alter changes a table's columns and rows.
func (g *page) alter(c api.Change) api.Errno {
	at, many := schema.Find(g.own, c.Column.Name), len(g.own.Columns)
	switch {
	case c.Kind == api.Add && at >= 0:
		return api.ErrExist
	case c.Kind == api.Add && many == api.MaxColumns:
		return api.ErrSchema
	case c.Kind != api.Add && at < 0:
		return api.ErrNone
	case c.Kind != api.Add && at < g.own.Keys, c.Kind == api.Retype && !g.own.Columns[at].None:
		return api.ErrSchema
	}
	columns, rows := slices.Clone(g.own.Columns), []api.Row(nil)
	for _, row := range g.rows {
		row = slices.Clone(row)
		switch c.Kind {
		case api.Add:
			row = append(row, api.Value{})
		case api.Cut:
			row = slices.Delete(row, at, at+1)
		case api.Retype:
			row[at] = api.Value{}
		}
		rows = append(rows, row)
	}
	switch c.Kind {
	case api.Add:
		columns = append(columns, c.Column)
	case api.Cut:
		columns = slices.Delete(columns, at, at+1)
	case api.Retype:
		columns[at].Kind = c.Column.Kind
	}
	g.own.Columns, g.rows = columns, rows
	return api.OK
}

// call is something that a source is told: kind is d (Do), u (Undo), a (Alter),
// l (Mark, low) or h (high).
type call struct {
	kind   byte
	deeds  []api.Deed
	change api.Change
	n      int
}

// on does a call on a source.
func (c call) on(s *source.Source) api.Errno {
	switch c.kind {
	case 'd':
		return s.Do(c.deeds)
	case 'u':
		return s.Undo(c.deeds)
	case 'a':
		return s.Alter(c.change)
	}
	return s.Mark(c.kind == 'h', c.n)
}

// onPaper does it on paper.
func (c call) onPaper(p *paper) api.Errno {
	switch c.kind {
	case 'd', 'u':
		return p.deeds(c.deeds, c.kind == 'u')
	case 'a':
		return p.alter(c.change)
	}
	kind := api.Low
	if c.kind == 'h' {
		kind = api.High
	}
	p.told = append(p.told, ofNumber(kind, c.n))
	return api.OK
}

// same tells how a source is another one than it is on paper: not, if the text is
// empty.
func same(s *source.Source, p *paper) string {
	tables := s.Tables()
	if len(tables) != len(p.pages) || s.Many() != p.many {
		return fmt.Sprintf("Tables %v, Many %d; not %v, %d", tables, s.Many(), p.pages, p.many)
	}
	for i, g := range p.pages {
		if tables[i].Name != g.name || !schema.Same(tables[i].Schema, g.own) {
			return fmt.Sprintf("Tables %v; not %v", tables, p.pages)
		}
		if l := s.Rows(g.name); !sameRows(l, g.rows) {
			return fmt.Sprintf("Rows of %s: %v, not %v", g.name, l, g.rows)
		}
		if other := g.some(s); other != "" {
			return other
		}
	}
	b := s.Log()
	all, at, errno := binlog.Events(b)
	if errno != api.ErrNone || at != len(b) || s.Size() != len(b) {
		return fmt.Sprintf("the log is not whole: %d, at %d of %d, Size %d", errno, at, len(b), s.Size())
	}
	if !event.Same(all[0], ofNumber(api.Start, 1)) || !slices.EqualFunc(all[1:], p.told, event.Same) {
		return fmt.Sprintf("log %v, not %v", all, p.told)
	}
	return ""
}

// some tells how what Some tells of a table is other than on paper, chunk by
// chunk.
func (g *page) some(s *source.Source) string {
	for most := 1; most < 4; most++ {
		after, left := "", g.rows
		for {
			l, errno := s.Some(g.name, after, most)
			if errno != api.OK || !sameRows(l, left[:min(most, len(left))]) {
				return fmt.Sprintf("Some of %s behind %q, %d: %v, %d; not of %v", g.name, after, most, l, errno, left)
			}
			if len(l) == 0 {
				break
			}
			left = left[len(l):]
			after, _ = schema.Key(g.own, l[len(l)-1])
		}
	}
	return ""
}

// replayed is the tables and rows that a log tells, gone through: this is what
// whoever reads it knows of the source.
func replayed(b []byte) ([]api.Table, map[string]map[string]api.Row, string) {
	var tables []api.Table
	rows := map[string]map[string]api.Row{}
	var open []api.Event
	at := 0
	for {
		body, behind, errno := binlog.Next(b, at)
		if errno == api.ErrNone {
			return tables, rows, ""
		}
		e, bad := event.Read(body, tables)
		if errno != api.OK || bad != api.OK {
			return nil, nil, fmt.Sprintf("at %d: %d, %d", at, errno, bad)
		}
		at = behind
		switch e.Kind {
		case api.Begin, api.Abort:
			open = nil
		case api.Commit:
			for _, e := range open {
				if other := replay(&tables, rows, e); other != "" {
					return nil, nil, other
				}
			}
		default:
			open = append(open, e)
		}
	}
}

// replay does what an event tells; what can't be done is told.
func replay(tables *[]api.Table, rows map[string]map[string]api.Row, e api.Event) string {
	name := e.Table + e.Change.Table
	own, _ := event.Find(*tables, name)
	row := append(slices.Clone(e.Before), e.After...)
	key, _ := schema.Key(own, row)
	_, there := rows[name][key]
	switch {
	case e.Kind == api.Alter && e.Change.Kind == api.Create:
		rows[name] = map[string]api.Row{}
	case e.Kind == api.Alter && e.Change.Kind == api.Drop:
		delete(rows, name)
	case e.Kind == api.Alter:
		for k, row := range rows[name] {
			rows[name][k] = schema.Turn(own, e.Change, row)
		}
	case there == (e.Kind == api.Insert):
		return fmt.Sprintf("%v, and a row is there: %t", e, there)
	case e.Kind == api.Delete:
		delete(rows[name], key)
	default:
		rows[name][key] = row
	}
	if e.Kind == api.Alter {
		l, errno := event.Follow(*tables, e.Change)
		if errno != api.OK {
			return fmt.Sprintf("%v can't be followed: %d", e, errno)
		}
		*tables = l
	}
	return ""
}

// tells tells how what a source's log tells is other than what there is.
func tells(s *source.Source) string {
	tables, rows, other := replayed(s.Log())
	if other != "" {
		return other
	}
	if l := s.Tables(); !sameTables(l, tables) || len(rows) != len(l) {
		return fmt.Sprintf("the log tells tables %v, not %v", tables, l)
	}
	for _, t := range tables {
		l := s.Rows(t.Name)
		if len(l) != len(rows[t.Name]) {
			return fmt.Sprintf("the log tells rows %v, not %v", rows[t.Name], l)
		}
		for _, row := range l {
			key, _ := schema.Key(t.Schema, row)
			if !slices.Equal(rows[t.Name][key], row) {
				return fmt.Sprintf("the log tells rows %v, not %v", rows[t.Name], l)
			}
		}
	}
	return ""
}

// run does calls on a new source and on paper, and tells what is other.
func run(l []call) string {
	s, p := source.New(), &paper{}
	for i, c := range l {
		before := s.Log()
		errno := c.onPaper(p)
		if got := c.on(s); got != errno {
			return fmt.Sprintf("%d of %v: %d, not %d", i, l, got, errno)
		}
		if log := s.Log(); !slices.Equal(log[:len(before)], before) {
			return fmt.Sprintf("%d of %v: the log does not go on", i, l)
		}
	}
	if other := same(s, p); other != "" {
		return fmt.Sprintf("%v: %s", l, other)
	}
	if other := tells(s); other != "" {
		return fmt.Sprintf("%v: %s", l, other)
	}
	return ""
}

// few is calls that meet each other in most ways.
func few() []call {
	small := ofKinds("id", api.Int)
	one, two := inserts("t", num(1)), inserts("t", num(0))
	wide := inserts("t", num(1), api.Value{})
	return []call{
		{kind: 'a', change: creates("t", small)},
		{kind: 'a', change: creates("s", people())},
		{kind: 'a', change: drops("t")},
		{kind: 'a', change: adds("t", "x", api.Bool)},
		{kind: 'a', change: cuts("t", "x")},
		{kind: 'd', deeds: []api.Deed{one}},
		{kind: 'd', deeds: []api.Deed{two, one}},
		{kind: 'u', deeds: []api.Deed{two}},
		{kind: 'd', deeds: []api.Deed{deletes("t", num(1))}},
		{kind: 'd', deeds: []api.Deed{wide}},
		{kind: 'd', deeds: []api.Deed{updates("t", num(1), api.Value{Kind: api.Bool, Number: 1})}},
		{kind: 'u', deeds: []api.Deed{deletes("t", num(1)), one}},
		{kind: 'l', n: 3},
	}
}

// P10.1 to P10.4: all rows of up to four calls behind a table's Create, out of
// few.
func TestAllRows(t *testing.T) {
	calls := few()
	var each func(l []call, left int)
	each = func(l []call, left int) {
		if other := run(l); other != "" {
			t.Fatal(other)
		}
		if left == 0 {
			return
		}
		for _, c := range calls {
			each(append(l[:len(l):len(l)], c), left-1)
		}
	}
	each(nil, 2)
	each(calls[:1], 4)
}

// anyValue is a value of a kind, or now and then another one.
func anyValue(r *rand.Rand, c api.Column) api.Value {
	kind := c.Kind
	if r.IntN(60) == 0 {
		kind = r.IntN(5)
	}
	switch {
	case c.None && r.IntN(3) == 0 || kind == api.Null:
		return api.Value{}
	case kind == api.Bool:
		return api.Value{Kind: kind, Number: r.IntN(2)}
	case kind == api.Int:
		return num(r.IntN(12) - 6)
	}
	return api.Value{Kind: kind, Text: []string{"", "a", "b", "aa", "\x00", "a\x00", "\x01"}[r.IntN(7)]}
}

// anyDeed is a deed, most often of a table that is there, with a row that fits.
func anyDeed(r *rand.Rand, p *paper) api.Deed {
	d := api.Deed{Kind: 1 + r.IntN(3), Table: string(rune('a' + r.IntN(4)))}
	if r.IntN(60) == 0 {
		d.Kind = r.IntN(6) - 1
	}
	i, ok := p.page(d.Table)
	if !ok {
		return d
	}
	for _, c := range p.pages[i].own.Columns {
		d.Row = append(d.Row, anyValue(r, c))
	}
	if d.Kind == api.DoDelete || r.IntN(60) == 0 {
		d.Row = d.Row[:p.pages[i].own.Keys]
	}
	// Few keys are there by chance: a row that is there is taken for its key.
	if g := p.pages[i]; d.Kind != api.DoInsert && len(g.rows) > 0 && r.IntN(3) > 0 {
		copy(d.Row[:g.own.Keys], g.rows[r.IntN(len(g.rows))])
	}
	return d
}

// anyChange is a change that an event may tell.
func anyChange(r *rand.Rand) api.Change {
	table, name := string(rune('a'+r.IntN(4))), string(rune('p'+r.IntN(5)))
	switch r.IntN(9) {
	case 0, 1, 2:
		own := api.Schema{Keys: 1 + r.IntN(2)}
		for i := range own.Keys + r.IntN(4) {
			own.Columns = append(own.Columns, api.Column{Name: string(rune('o' + i)), Kind: 1 + r.IntN(4), None: i >= own.Keys && r.IntN(4) > 0})
		}
		return creates(table, own)
	case 3:
		return drops(table)
	case 4, 5:
		return adds(table, name, 1+r.IntN(4))
	case 6:
		return cuts(table, name)
	}
	return retypes(table, name, 1+r.IntN(4))
}

// anyCall is a call.
func anyCall(r *rand.Rand, p *paper) call {
	switch r.IntN(10) {
	case 0:
		return call{kind: 'a', change: anyChange(r)}
	case 1:
		return call{kind: "lh"[r.IntN(2)], n: r.IntN(1 << r.IntN(62))}
	}
	c := call{kind: "dddu"[r.IntN(4)]}
	for range r.IntN(4) {
		c.deeds = append(c.deeds, anyDeed(r, p))
	}
	return c
}

// P10.1 to P10.4: long rows of calls.
func TestLongRows(t *testing.T) {
	told := map[api.Errno]int{}
	for seed := range uint64(60) {
		r := rand.New(rand.NewPCG(10, seed))
		s, p := source.New(), &paper{}
		for i := range 400 {
			c := anyCall(r, p)
			errno := c.onPaper(p)
			told[errno]++
			if got := c.on(s); got != errno {
				t.Fatalf("seed %d, call %d, %v: %d, not %d", seed, i, c, got, errno)
			}
			if i%20 != 19 {
				continue
			}
			if other := same(s, p) + tells(s); other != "" {
				t.Fatalf("seed %d, call %d: %s", seed, i, other)
			}
		}
	}
	for _, errno := range []api.Errno{api.OK, api.ErrKind, api.ErrNone, api.ErrRow, api.ErrExist, api.ErrState, api.ErrSchema} {
		if told[errno] < 50 {
			t.Errorf("%d was told %d times only", errno, told[errno])
		}
	}
}

// R5: the same calls tell the same bytes, table by table as names rise.
func TestAgain(t *testing.T) {
	var first []byte
	for turn := range 20 {
		r := rand.New(rand.NewPCG(10, 100))
		s, p := source.New(), &paper{}
		for range 150 {
			c := anyCall(r, p)
			c.onPaper(p)
			c.on(s)
		}
		if b := s.Log(); turn == 0 {
			first = b
		} else if !slices.Equal(b, first) {
			t.Fatalf("turn %d: another log", turn)
		}
	}
}
