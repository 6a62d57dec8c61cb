package source_test

import (
	"math"
	"slices"
	"testing"

	"pantograph/api"
	"pantograph/binlog"
	"pantograph/schema"
	"pantograph/source"
)

// keyOf is a row's key.
func keyOf(t *testing.T, s api.Schema, row ...api.Value) string {
	t.Helper()
	key, errno := schema.Key(s, row)
	want(t, errno, api.OK)
	return key
}

// P10.3: rows stand in the order of their keys, whatever the row in which they
// came.
func TestOrder(t *testing.T) {
	no, yes := api.Value{Kind: api.Bool}, api.Value{Kind: api.Bool, Number: 1}
	raw := api.Value{Kind: api.Bytes, Text: "z"}
	ints := []api.Row{person(math.MinInt, "z"), person(-256, "y"), person(-1, "x"), person(0, "w"), person(1, "v"), person(255, "u"), person(256, "t"), person(math.MaxInt, "s")}
	two := []api.Row{{text(""), no, raw}, {text(""), yes, {}}, {text("\x00"), no, raw}, {text("a"), no, {}}, {text("a"), yes, raw}, {text("a\x00"), no, raw}, {text("a\x01"), no, {}}, {text("aa"), no, raw}, {text("b"), yes, {}}, {text("é"), no, {}}}
	for turn := range 5 {
		s := source.New()
		want(t, s.Alter(creates("people", people())), api.OK)
		want(t, s.Alter(creates("pairs", pairs())), api.OK)
		for i := range ints {
			want(t, s.Do([]api.Deed{inserts("people", ints[(i*(2*turn+1)+turn)%len(ints)]...)}), api.OK)
		}
		for i := range two {
			want(t, s.Do([]api.Deed{inserts("pairs", two[(i*[]int{1, 3, 7, 9, 11}[turn]+turn)%len(two)]...)}), api.OK)
		}
		wantRows(t, s, "people", ints...)
		wantRows(t, s, "pairs", two...)
		for _, l := range [][]api.Row{ints, two} {
			table, own := "people", people()
			if len(l[0]) == 3 {
				table, own = "pairs", pairs()
			}
			for i, row := range l {
				for most := range len(l) + 2 {
					got, errno := s.Some(table, keyOf(t, own, row...), most)
					if rest := l[i+1:]; !sameRows(got, rest[:min(most, len(rest))]) || errno != api.OK {
						t.Errorf("Some of %s behind %d, %d: %v, %d", table, i, most, got, errno)
					}
				}
			}
		}
	}
}

// P10.3: Some goes by any text, and any number.
func TestSome(t *testing.T) {
	s := made(t)
	want(t, s.Do([]api.Deed{inserts("people", person(5, "five")...)}), api.OK)
	one, three, five := person(1, "Ada"), api.Row{num(3), {}}, person(5, "five")
	at := func(n int) string { return keyOf(t, people(), num(n)) }
	for _, c := range []struct {
		after string
		most  int
		rows  []api.Row
	}{
		{"", math.MaxInt, []api.Row{one, three, five}},
		{"", 4, []api.Row{one, three, five}},
		{"", 3, []api.Row{one, three, five}},
		{"", 2, []api.Row{one, three}},
		{"", 1, []api.Row{one}},
		{"", 0, nil},
		{"", -1, nil},
		{at(1), math.MinInt, nil},
		{at(1), 0, nil},
		{at(1), 1, []api.Row{three}},
		{at(1), 9, []api.Row{three, five}},
		{at(3), 9, []api.Row{five}},
		{at(5), 9, nil},
		{at(math.MaxInt), 9, nil},
		{at(math.MinInt), 2, []api.Row{one, three}},
		{at(0), 2, []api.Row{one, three}},
		{at(2), 9, []api.Row{three, five}},
		{at(4), 9, []api.Row{five}},
		// Texts that are no keys.
		{"\x00", 9, []api.Row{one, three, five}},
		{"\x02", 9, []api.Row{one, three, five}},
		{at(3)[:8], 9, []api.Row{one, three, five}},
		{at(3) + "\x00", 9, []api.Row{five}},
		{at(1) + "z", 9, []api.Row{three, five}},
		{"\x03", 9, nil},
		{"\xff\xff", 9, nil},
	} {
		got, errno := s.Some("people", c.after, c.most)
		if !sameRows(got, c.rows) || errno != api.OK {
			t.Errorf("Some behind %q, %d: %v, %d; not %v", c.after, c.most, got, errno, c.rows)
		}
	}
	for _, table := range []string{"", "none", "peopl", "people_", "People"} {
		for _, most := range []int{-1, 0, 1, math.MaxInt} {
			for _, after := range []string{"", at(1)} {
				if l, errno := s.Some(table, after, most); len(l) != 0 || errno != api.ErrNone {
					t.Errorf("Some of %q: %v, %d", table, l, errno)
				}
			}
		}
		if l := s.Rows(table); len(l) != 0 {
			t.Errorf("Rows of %q: %v", table, l)
		}
	}
}

// P10.3: a table without rows is no table that is not there.
func TestEmpty(t *testing.T) {
	s := source.New()
	want(t, s.Alter(creates("t", people())), api.OK)
	wantRows(t, s, "t")
	for _, after := range []string{"", "x"} {
		if l, errno := s.Some("t", after, 3); len(l) != 0 || errno != api.OK {
			t.Errorf("Some: %v, %d", l, errno)
		}
	}
}

// P10.3: tables are told as their names rise.
func TestTables(t *testing.T) {
	s := source.New()
	for _, name := range []string{"b", "a_", "a", "c", "ab", "a0", "b_1"} {
		want(t, s.Alter(creates(name, ofKinds(name+" x", api.Int, api.Bool))), api.OK)
	}
	var l []api.Table
	for _, name := range []string{"a", "a0", "a_", "ab", "b", "b_1", "c"} {
		l = append(l, api.Table{Name: name, Schema: ofKinds(name+" x", api.Int, api.Bool)})
	}
	wantTables(t, s, l...)
	if s.Many() != len(l) {
		t.Errorf("Many: %d", s.Many())
	}
}

// P10.3, R4: nothing that is told is the source's own, nor anything else that is
// told.
func TestOwn(t *testing.T) {
	s := made(t)
	k := keptOf(s)
	log, tables, rows := s.Log(), s.Tables(), s.Rows("people")
	some, _ := s.Some("people", "", 5)
	for i := range log {
		log[i]++
	}
	for i := range tables {
		tables[i].Name = "x"
		for j := range tables[i].Schema.Columns {
			tables[i].Schema.Columns[j].Name = "y"
		}
		tables[i].Schema.Columns = append(tables[i].Schema.Columns, api.Column{})
	}
	for _, l := range [][]api.Row{rows, some} {
		for i := range l {
			l[i] = append(l[i], num(9))
			l[i][0] = text("changed")
			if i > 0 && l[i-1][0] != text("changed") {
				t.Error("rows share their memory")
			}
			l[i][1] = num(i)
		}
	}
	_, _ = append(log, 1), append(tables, api.Table{})
	wantKept(t, s, k)
	again, _ := s.Some("people", "", 5)
	again[0][1] = text("changed")
	wantKept(t, s, k)
	want(t, s.Do([]api.Deed{updates("people", person(1, "Bob")...)}), api.OK)
	wantRows(t, s, "people", person(1, "Bob"), api.Row{num(3), {}})
}

// R4: what is told stays as it was, whatever the source does then.
func TestStays(t *testing.T) {
	s := made(t)
	told := kept{log: s.Log(), tables: s.Tables(), rows: [][]api.Row{s.Rows("pairs"), s.Rows("people")}}
	some, _ := s.Some("people", "", 9)
	k := keptOf(s)
	want(t, s.Do([]api.Deed{updates("people", person(1, "Bob")...), deletes("people", num(3)), inserts("people", person(0, "x")...)}), api.OK)
	want(t, s.Alter(cuts("people", "name")), api.OK)
	want(t, s.Alter(drops("pairs")), api.OK)
	want(t, s.Mark(true, 3), api.OK)
	if !slices.Equal(told.log, k.log) || !sameTables(told.tables, k.tables) || !slices.EqualFunc(told.rows, k.rows, sameRows) || !sameRows(some, k.rows[1]) {
		t.Errorf("what was told changed: %v, %v", told, some)
	}
}

// R4: what is handed in is neither changed nor kept, its spare room neither.
func TestHandedIn(t *testing.T) {
	s := source.New()
	own := people()
	own.Columns = append(make([]api.Column, 0, 9), own.Columns...)
	change := creates("t", own)
	want(t, s.Alter(change), api.OK)
	row := append(make(api.Row, 0, 9), person(1, "a")...)
	other := append(make(api.Row, 0, 9), person(2, "b")...)
	key := append(make(api.Row, 0, 9), num(2))
	deeds := append(make([]api.Deed, 0, 9), inserts("t", row...), inserts("t", other...), updates("t", row...), deletes("t", key...))
	want(t, s.Undo(deeds), api.OK)
	want(t, s.Do(deeds), api.OK)
	if !slices.Equal(row, person(1, "a")) || !slices.Equal(other, person(2, "b")) || !slices.Equal(key, api.Row{num(2)}) {
		t.Errorf("rows: %v, %v, %v", row, other, key)
	}
	if !schema.Same(own, people()) || change.Kind != api.Create || change.Table != "t" {
		t.Errorf("change: %v", change)
	}
	for i, d := range deeds {
		kind := []int{api.DoInsert, api.DoInsert, api.DoUpdate, api.DoDelete}[i]
		if d.Kind != kind || d.Table != "t" {
			t.Errorf("deed %d: %v", i, d)
		}
	}
	for _, c := range own.Columns[:9][2:] {
		if c != (api.Column{}) {
			t.Errorf("the schema's spare room has %v", c)
		}
	}
	for _, l := range []api.Row{row[:9][2:], other[:9][2:], key[:9][1:]} {
		for _, v := range l {
			if v != (api.Value{}) {
				t.Errorf("a row's spare room has %v", v)
			}
		}
	}
	k := keptOf(s)
	row[0], row[1], other[0], key[0] = num(8), num(8), num(8), num(8)
	own.Columns[0].Name, own.Columns[1].Kind = "x", api.Bool
	deeds[0], deeds[1].Table = api.Deed{}, "none"
	wantKept(t, s, k)
	wantRows(t, s, "t", person(1, "a"))
	want(t, s.Alter(adds("t", "x", api.Int)), api.OK)
	wantRows(t, s, "t", append(person(1, "a"), api.Value{}))
}

// R4: a list that is nil and one that is empty are one.
func TestNil(t *testing.T) {
	a, b := source.New(), source.New()
	for _, s := range []*source.Source{a, b} {
		deeds, row := []api.Deed(nil), api.Row(nil)
		if s == b {
			deeds, row = []api.Deed{}, api.Row{}
		}
		want(t, s.Do(deeds), api.OK)
		want(t, s.Undo(deeds), api.OK)
		want(t, s.Alter(creates("t", people())), api.OK)
		want(t, s.Do([]api.Deed{{Kind: api.DoDelete, Table: "t", Row: row}}), api.ErrRow)
		change := drops("t")
		if s == b {
			change.Schema.Columns = []api.Column{}
		}
		want(t, s.Alter(change), api.OK)
	}
	if !slices.Equal(a.Log(), b.Log()) {
		t.Errorf("%v, %v", a.Log(), b.Log())
	}
	wantLog(t, a, wholeOf(t, b)...)
}

// wholeOf is the events of a source's log behind its Start.
func wholeOf(t *testing.T, s *source.Source) []api.Event {
	t.Helper()
	all, _, errno := binlog.Events(s.Log())
	want(t, errno, api.ErrNone)
	return all[1:]
}
