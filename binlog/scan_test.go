package binlog_test

import (
	"bytes"
	"fmt"
	"math"
	"slices"
	"testing"

	"pantograph/api"
	"pantograph/binlog"
	"pantograph/event"
)

func whole(n int) api.Value   { return api.Value{Kind: api.Int, Number: n} }
func text(s string) api.Value { return api.Value{Kind: api.Text, Text: s} }

// must is a column that has no Null, may is one that may have it.
func must(name string, kind int) api.Column { return api.Column{Name: name, Kind: kind} }
func may(name string, kind int) api.Column {
	return api.Column{Name: name, Kind: kind, None: true}
}

func of(keys int, l ...api.Column) api.Schema { return api.Schema{Columns: l, Keys: keys} }

// slim is the schema that most tables here have; wide is the one behind add.
func slim() api.Schema { return of(1, must("id", api.Int)) }
func wide() api.Schema { return of(1, must("id", api.Int), may("x", api.Text)) }

// list is tables.
func list(l ...api.Table) []api.Table { return l }

func table(name string, s api.Schema) api.Table { return api.Table{Name: name, Schema: s} }

// marked is an event that has a number alone.
func marked(kind, n int) api.Event { return api.Event{Kind: kind, Number: n} }
func insert(name string, row ...api.Value) api.Event {
	return api.Event{Kind: api.Insert, Table: name, After: row}
}
func update(name string, row ...api.Value) api.Event {
	return api.Event{Kind: api.Update, Table: name, After: row}
}
func remove(name string, key ...api.Value) api.Event {
	return api.Event{Kind: api.Delete, Table: name, Before: key}
}
func alter(c api.Change) api.Event { return api.Event{Kind: api.Alter, Change: c} }
func create(name string, s api.Schema) api.Event {
	return alter(api.Change{Kind: api.Create, Table: name, Schema: s})
}
func drop(name string) api.Event { return alter(api.Change{Kind: api.Drop, Table: name}) }
func add(name, column string) api.Event {
	return alter(api.Change{Kind: api.Add, Table: name, Column: may(column, api.Text)})
}
func cut(name, column string) api.Event {
	return alter(api.Change{Kind: api.Cut, Table: name, Column: api.Column{Name: column}})
}
func retype(name string, c api.Column) api.Event {
	return alter(api.Change{Kind: api.Retype, Table: name, Column: c})
}

func sameTable(a, b api.Table) bool {
	return a.Name == b.Name && a.Schema.Keys == b.Schema.Keys && slices.Equal(a.Schema.Columns, b.Schema.Columns)
}

// copied is tables in memory of their own.
func copied(l []api.Table) []api.Table {
	l = slices.Clone(l)
	for i := range l {
		l[i].Schema.Columns = slices.Clone(l[i].Schema.Columns)
	}
	return l
}

// bodyOf is an event's bytes, by tables.
func bodyOf(t *testing.T, e api.Event, l []api.Table) []byte {
	t.Helper()
	b, errno := event.Write(e, l)
	if errno != api.OK {
		t.Fatalf("%v has no bytes: %d", e, errno)
	}
	return b
}

// stop is an event of a log, and how things stand behind it.
type stop struct {
	e    api.Event
	l    []api.Table // the tables behind it
	open bool
}

// journey is an ordinary log, event by event: marks, transactions that are
// committed and aborted, with and without changes of tables.
func journey() []stop {
	t, tt, u := table("t", slim()), table("t", wide()), table("u", wide())
	n := table("u", of(1, must("id", api.Int), may("x", api.Bytes)))
	return []stop{
		{marked(api.Low, 3), nil, false},
		{marked(api.Begin, 0), nil, true},
		{create("t", slim()), list(t), true},
		{insert("t", whole(1)), list(t), true},
		{marked(api.Commit, 0), list(t), false},
		{marked(api.Begin, 7), list(t), true},
		{add("t", "x"), list(tt), true},
		{insert("t", whole(2), text("two")), list(tt), true},
		{update("t", whole(1), api.Value{}), list(tt), true},
		{create("u", wide()), list(tt, u), true},
		{remove("t", whole(2)), list(tt, u), true},
		{marked(api.Abort, 7), list(t), false},
		{marked(api.High, 3), list(t), false},
		{marked(api.Low, 3), list(t), false},
		{marked(api.Begin, 7), list(t), true},
		{marked(api.Commit, 7), list(t), false},
		{marked(api.Begin, math.MaxInt64), list(t), true},
		{insert("t", whole(-5)), list(t), true},
		{create("u", wide()), list(t, u), true},
		{insert("u", whole(1), text("ä")), list(t, u), true},
		{retype("u", may("x", api.Bytes)), list(t, n), true},
		{insert("u", whole(2), api.Value{Kind: api.Bytes, Text: "\xff"}), list(t, n), true},
		{drop("t"), list(n), true},
		{marked(api.Commit, math.MaxInt64), list(n), false},
		{marked(api.Begin, 1), list(n), true},
		{drop("u"), nil, true},
		{create("u", slim()), list(table("u", slim())), true},
		{update("u", whole(2)), list(table("u", slim())), true},
		{marked(api.Abort, 1), list(n), false},
		{marked(api.Begin, 1), list(n), true},
		{cut("u", "x"), list(table("u", slim())), true},
		{remove("u", whole(2)), list(table("u", slim())), true},
		{marked(api.Commit, 1), list(table("u", slim())), false},
		{marked(api.High, 0), list(table("u", slim())), false},
	}
}

// written is a log of the Start and the stops, and the places behind each of
// them, the Start's first.
func written(t *testing.T, l []stop) ([]byte, []int) {
	t.Helper()
	b := plain([]byte{1, 1})
	places := []int{len(b)}
	var tables []api.Table
	for _, s := range l {
		b = append(b, plain(bodyOf(t, s.e, tables))...)
		places = append(places, len(b))
		tables = s.l
	}
	return b, places
}

// wantStand checks how a scanner stands.
func wantStand(t *testing.T, s *binlog.Scanner, at int, l []api.Table, open bool) {
	t.Helper()
	if s.At() != at || s.Open() != open || !slices.EqualFunc(s.Tables(), l, sameTable) {
		t.Errorf("at %d, %t, %v; not at %d, %t, %v", s.At(), s.Open(), s.Tables(), at, open, l)
	}
}

// wantEvent checks the next event.
func wantEvent(t *testing.T, s *binlog.Scanner, want api.Event) {
	t.Helper()
	if e, errno := s.Next(); errno != api.OK || !event.Same(e, want) {
		t.Errorf("%v, %d; not %v", e, errno, want)
	}
}

// wantRefused checks that the error is told, each time, and changes nothing.
func wantRefused(t *testing.T, s *binlog.Scanner, errno api.Errno) {
	t.Helper()
	at, l, open := s.At(), s.Tables(), s.Open()
	for range 3 {
		if e, told := s.Next(); told != errno || !event.Same(e, api.Event{}) {
			t.Errorf("%v, %d; not %d", e, told, errno)
		}
		wantStand(t, s, at, l, open)
	}
}

// P7.2: the events are told, one by one, and how things stand behind each.
func TestScan(t *testing.T) {
	b, places := written(t, journey())
	s := binlog.Scan(b, places[0], nil)
	wantStand(t, s, places[0], nil, false)
	for i, stop := range journey() {
		wantEvent(t, s, stop.e)
		wantStand(t, s, places[i+1], stop.l, stop.open)
	}
	wantRefused(t, s, api.ErrNone)
}

// P7.2: a scanner begins at any place outside of transactions.
func TestScanFrom(t *testing.T) {
	all := journey()
	b, places := written(t, all)
	for from := range all {
		if from > 0 && all[from-1].open {
			continue
		}
		var l []api.Table
		if from > 0 {
			l = all[from-1].l
		}
		s := binlog.Scan(b, places[from], l)
		wantStand(t, s, places[from], l, false)
		for i, stop := range all[from:] {
			wantEvent(t, s, stop.e)
			wantStand(t, s, places[from+i+1], stop.l, stop.open)
		}
		wantRefused(t, s, api.ErrNone)
	}
	end := all[len(all)-1]
	s := binlog.Scan(b, len(b), end.l)
	wantRefused(t, s, api.ErrNone)
	wantStand(t, s, len(b), end.l, false)
}

// P7.2: what is ahead of the place does not matter.
func TestScanAhead(t *testing.T) {
	all := journey()
	b, places := written(t, all)
	for i := range places[0] {
		b[i] ^= 255
	}
	s := binlog.Scan(b, places[0], nil)
	for _, stop := range all {
		wantEvent(t, s, stop.e)
	}
	wantRefused(t, s, api.ErrNone)
}

// P7.2: a log that is cut off, or changed, anywhere is told up to there.
func TestScanCut(t *testing.T) {
	all := journey()
	b, places := written(t, all)
	for n := places[0]; n <= len(b); n++ {
		s, i := binlog.Scan(b[:n], places[0], nil), 0
		for ; i < len(all) && places[i+1] <= n; i++ {
			wantEvent(t, s, all[i].e)
			wantStand(t, s, places[i+1], all[i].l, all[i].open)
		}
		if places[i] == n {
			wantRefused(t, s, api.ErrNone)
		} else {
			wantRefused(t, s, api.ErrEnd)
		}
	}
	for i, stop := range all {
		body := len(bodyOf(t, stop.e, before(all, i)))
		for at := places[i+1] - 4 - body; at < places[i+1]; at++ {
			b[at] ^= 16
			s := binlog.Scan(b, places[0], nil)
			for j := range i {
				wantEvent(t, s, all[j].e)
			}
			wantRefused(t, s, api.ErrSum)
			wantStand(t, s, places[i], before(all, i), i > 0 && all[i-1].open)
			b[at] ^= 16
		}
	}
}

// before is the tables ahead of the stop number i.
func before(l []stop, i int) []api.Table {
	if i == 0 {
		return nil
	}
	return l[i-1].l
}

// P7.2: places that are none, and lengths that are no numbers.
func TestScanWrong(t *testing.T) {
	b, _ := written(t, journey())
	for _, at := range []int{-1, -7, math.MinInt64, len(b) + 1, len(b) + 7, math.MaxInt64} {
		s := binlog.Scan(b, at, list(table("t", slim())))
		wantRefused(t, s, api.ErrArg)
		wantStand(t, s, at, list(table("t", slim())), false)
		s = binlog.Scan(nil, at, nil)
		wantRefused(t, s, api.ErrArg)
		wantStand(t, s, at, nil, false)
	}
	wantRefused(t, binlog.Scan(nil, 0, nil), api.ErrNone)
	for _, form := range [][]byte{{128, 0}, bytes.Repeat([]byte{128}, 10), bytes.Repeat([]byte{255}, 30)} {
		s := binlog.Scan(append(binlog.New(), form...), 7, nil)
		wantRefused(t, s, api.ErrForm)
		wantStand(t, s, 7, nil, false)
	}
}

// P7.2: what stands in a frame whose check is right may still be no event, or
// none of the tables that there are.
func TestScanRead(t *testing.T) {
	for _, c := range []struct {
		body  []byte
		errno api.Errno
	}{
		{nil, api.ErrForm}, {[]byte{0}, api.ErrForm}, {[]byte{11}, api.ErrForm}, {[]byte{7}, api.ErrForm}, {[]byte{2, 5, 0}, api.ErrForm}, {[]byte{9, 128, 0}, api.ErrForm},
		{[]byte("\x03\x01t\x00\x02"), api.OK}, {[]byte("\x03\x01t\x00\x02\x00"), api.ErrForm}, {[]byte("\x03\x01t\x02\x02"), api.ErrForm},
		{[]byte("\x03\x01u\x00\x02"), api.ErrNone}, {[]byte("\x05\x01u"), api.ErrNone}, {[]byte("\x04\x00"), api.ErrNone}, {[]byte("\x04\x02u"), api.ErrForm},
		{[]byte("\x06\x09\x01t"), api.ErrForm}, {[]byte("\x06\x02\x01T"), api.ErrForm}, {[]byte("\x06\x02\x01t\x00"), api.ErrForm},
	} {
		b := binlog.Frame(binlog.New(), []byte{2, 5})
		at := len(b)
		s := binlog.Scan(binlog.Frame(b, c.body), 7, list(table("t", slim())))
		wantEvent(t, s, marked(api.Begin, 5))
		if c.errno != api.OK {
			wantRefused(t, s, c.errno)
			wantStand(t, s, at, list(table("t", slim())), true)
		} else if _, errno := s.Next(); errno != api.OK {
			t.Error(c.body, errno)
		}
		// Outside of the transaction too: this error comes ahead of ErrState.
		if c.errno == api.OK {
			c.errno = api.ErrState
		}
		s = binlog.Scan(binlog.Frame(binlog.New(), c.body), 7, list(table("t", slim())))
		wantRefused(t, s, c.errno)
		wantStand(t, s, 7, list(table("t", slim())), false)
	}
}

// P7.2: each kind of events has places where it may stand, and others.
func TestScanState(t *testing.T) {
	tables := list(table("t", slim()))
	for _, c := range []struct {
		e               api.Event
		outside, inside bool // inside of the transaction 5
	}{
		{marked(api.Start, 1), false, false}, {marked(api.Start, 0), false, false}, {marked(api.Start, 5), false, false},
		{marked(api.Low, 0), true, false}, {marked(api.Low, 5), true, false}, {marked(api.High, 5), true, false}, {marked(api.High, math.MaxInt64), true, false},
		{marked(api.Begin, 0), true, false}, {marked(api.Begin, 5), true, false}, {marked(api.Begin, 6), true, false}, {marked(api.Begin, math.MaxInt64), true, false},
		{marked(api.Commit, 5), false, true}, {marked(api.Abort, 5), false, true},
		{marked(api.Commit, 0), false, false}, {marked(api.Abort, 0), false, false}, {marked(api.Commit, 6), false, false}, {marked(api.Abort, 4), false, false}, {marked(api.Abort, math.MaxInt64), false, false},
		{insert("t", whole(1)), false, true}, {update("t", whole(1)), false, true}, {remove("t", whole(1)), false, true},
		{create("u", slim()), false, true}, {drop("t"), false, true}, {add("t", "x"), false, true},
		// Where an Alter may not stand, it is not asked whether it can be followed.
		{create("t", slim()), false, true}, {drop("u"), false, true}, {cut("t", "id"), false, true},
	} {
		body := bodyOf(t, c.e, tables)
		for _, inside := range []bool{false, true} {
			b, may := binlog.New(), c.outside
			if inside {
				b, may = binlog.Frame(b, []byte{2, 5}), c.inside
			}
			s := binlog.Scan(binlog.Frame(b, body), 7, tables)
			if inside {
				wantEvent(t, s, marked(api.Begin, 5))
			}
			if !may {
				wantRefused(t, s, api.ErrState)
				wantStand(t, s, len(b), tables, inside)
			} else if _, errno := s.Next(); errno == api.ErrState {
				t.Errorf("%v, inside %t: %d", c.e, inside, errno)
			}
		}
	}
}

// P7.2: within no transaction there is none of the number 0 either, and behind a
// transaction none of its number.
func TestScanNumbers(t *testing.T) {
	for _, kind := range []int{api.Commit, api.Abort} {
		for _, n := range []int{0, 1, 5} {
			own := []stop{{marked(api.Begin, n), nil, true}, {marked(kind, n), nil, false}}
			for _, other := range []int{api.Commit, api.Abort} {
				b, places := written(t, append(own, stop{marked(other, n), nil, false}))
				s := binlog.Scan(b, 7, nil)
				wantEvent(t, s, marked(api.Begin, n))
				wantEvent(t, s, marked(kind, n))
				wantRefused(t, s, api.ErrState)
				wantStand(t, s, places[2], nil, false)
			}
		}
	}
}

// P7.2: changes that can't be followed, by the tables of the transaction.
func TestScanFollow(t *testing.T) {
	full := func(n int) []api.Table {
		var l []api.Table
		for i := range n {
			l = append(l, table(fmt.Sprintf("t%02d", i), slim()))
		}
		return l
	}
	greatest := slim()
	for i := range api.MaxColumns - 1 {
		greatest.Columns = append(greatest.Columns, may(fmt.Sprintf("c%d", i), api.Int))
	}
	for i, c := range []struct {
		l     []api.Table
		good  []api.Event
		bad   api.Event
		errno api.Errno
	}{
		{nil, nil, drop("t"), api.ErrNone},
		{nil, nil, add("t", "x"), api.ErrNone},
		{list(table("t", slim())), nil, create("t", wide()), api.ErrExist},
		{list(table("t", wide())), nil, add("t", "x"), api.ErrExist},
		{list(table("t", wide())), nil, cut("t", "y"), api.ErrNone},
		{list(table("t", wide())), nil, cut("t", "id"), api.ErrSchema},
		{list(table("t", wide())), nil, retype("t", may("id", api.Text)), api.ErrSchema},
		{list(table("t", wide())), nil, retype("t", may("y", api.Text)), api.ErrNone},
		{list(table("t", wide())), nil, alter(api.Change{Kind: api.Add, Table: "t", Column: must("y", api.Int)}), api.ErrArg},
		{list(table("t", greatest)), nil, add("t", "x"), api.ErrSchema},
		{full(api.MaxTables), nil, create("u", slim()), api.ErrLimit},
		{full(api.MaxTables - 1), []api.Event{create("u", slim())}, create("v", slim()), api.ErrLimit},
		{list(table("t", slim())), []api.Event{drop("t")}, drop("t"), api.ErrNone},
		{list(table("t", slim())), []api.Event{drop("t")}, add("t", "x"), api.ErrNone},
		{nil, []api.Event{create("t", slim())}, create("t", slim()), api.ErrExist},
		{list(table("t", slim())), []api.Event{add("t", "x")}, add("t", "x"), api.ErrExist},
		{list(table("t", wide())), []api.Event{cut("t", "x")}, cut("t", "x"), api.ErrNone},
	} {
		b := binlog.Frame(binlog.New(), []byte{2, 5})
		for _, e := range append(slices.Clone(c.good), c.bad) {
			b = binlog.Frame(b, bodyOf(t, e, nil))
		}
		s := binlog.Scan(b, 7, c.l)
		wantEvent(t, s, marked(api.Begin, 5))
		for _, e := range c.good {
			wantEvent(t, s, e)
		}
		wantRefused(t, s, c.errno)
		if !s.Open() {
			t.Error(i, "the transaction is open no more")
		}
	}
}

// P7.2: what a scanner has is its own, and what it tells is new.
func TestScanIsOwn(t *testing.T) {
	all := journey()
	b, places := written(t, all)
	was := slices.Clone(b)
	tables := list(table("a", wide()), table("b", slim()))
	s := binlog.Scan(b, places[0], tables)
	clear(b)
	clear(tables[0].Schema.Columns)
	clear(tables)
	// Other tables than the journey's: its own ones come between and behind them.
	for _, stop := range all {
		e, errno := s.Next()
		if errno != api.OK || !event.Same(e, stop.e) {
			t.Fatalf("%v, %d; not %v", e, errno, stop.e)
		}
		clear(e.Before)
		clear(e.After)
		clear(e.Change.Schema.Columns)
		l := s.Tables()
		want := append(list(table("a", wide()), table("b", slim())), stop.l...)
		if !slices.EqualFunc(l, want, sameTable) {
			t.Fatalf("behind %v: %v", stop.e, l)
		}
		for i := range l {
			clear(l[i].Schema.Columns[:cap(l[i].Schema.Columns)])
			for j := range i {
				if len(l[j].Schema.Columns) > 0 && l[j].Schema.Columns[0].Name != "" {
					t.Fatal("one table has the other one's memory")
				}
			}
		}
		clear(l[:cap(l)])
		if !slices.EqualFunc(s.Tables(), want, sameTable) {
			t.Fatalf("behind %v: what was told is kept: %v", stop.e, s.Tables())
		}
	}
	// The other way round: what is scanned is not changed.
	s = binlog.Scan(was, places[0], nil)
	own := slices.Clone(was)
	for _, errno := s.Next(); errno == api.OK; _, errno = s.Next() {
	}
	if !bytes.Equal(own, was) {
		t.Error("what was handed in is changed")
	}
}

// P7.2: tables that are handed in are not changed by what follows.
func TestScanLeavesTables(t *testing.T) {
	tables := append(make([]api.Table, 0, 9), table("a", wide()), table("t", slim()))
	was := copied(tables)
	b := binlog.Frame(binlog.New(), []byte{2, 5})
	for _, e := range []api.Event{add("t", "x"), drop("a"), create("b", slim()), create("u", wide()), marked(api.Commit, 5)} {
		b = binlog.Frame(b, bodyOf(t, e, nil))
	}
	s := binlog.Scan(b, 7, tables)
	for range 6 {
		if _, errno := s.Next(); errno != api.OK {
			t.Fatal(errno)
		}
	}
	wantStand(t, s, len(b), list(table("b", slim()), table("t", wide()), table("u", wide())), false)
	if !slices.EqualFunc(tables, was, sameTable) || tables[:3][2].Name != "" {
		t.Error("what was handed in is changed", tables[:3])
	}
}

// P7.2: two scanners of the same bytes do not meet.
func TestScannersApart(t *testing.T) {
	all := journey()
	b, places := written(t, all)
	one, two := binlog.Scan(b, places[0], nil), binlog.Scan(b, places[0], nil)
	for i, stop := range all {
		wantEvent(t, one, stop.e)
		wantStand(t, two, places[i], before(all, i), i > 0 && all[i-1].open)
		wantEvent(t, two, stop.e)
		wantStand(t, one, places[i+1], stop.l, stop.open)
	}
}
