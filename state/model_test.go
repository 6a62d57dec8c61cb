package state_test

import (
	"bytes"
	"math/rand/v2"
	"slices"
	"testing"

	"pantograph/api"
	"pantograph/binlog"
	"pantograph/source"
	"pantograph/state"
	"pantograph/wal"
)

// choice is writes that meet each other in most ways, right and wrong ones.
func choice() []api.Write {
	return []api.Write{
		put("t", whole(1), text("a")), put("t", whole(1), null()), put("t", whole(1)), put("u", whole(1)), off("t", whole(1)), off("t", whole(0)), off("u", whole(1)),
		create("t", pair()), create("u", single()), drop("t"), drop("u"), add("t", may("x", api.Int)), cut("t", "name"), retype("t", may("name", api.Bytes)),
	}
}

// P15.1 to P15.4: all rows of up to four writes out of some, behind a table with
// rows: each in a group of its own, and all in one; behind the first one that may
// not be there comes at most one more.
func TestAllRowsOfWrites(t *testing.T) {
	all := choice()
	ahead := []api.Write{create("t", pair()), put("t", whole(1), text("b")), put("t", whole(0), text("c"))}
	rights := 0
	var try func(s *state.State, p *paper, writes []api.Write, wrong bool)
	try = func(s *state.State, p *paper, writes []api.Write, wrong bool) {
		together, q := state.New(), &paper{}
		wantApply(t, together, q, ahead, points()[2])
		if want, e := q.apply(writes, points()[0]), together.Apply(writes, points()[0]); e != want {
			t.Fatalf("Apply of %s: %d, not %d", brief(writes), e, want)
		}
		wantSame(t, together, q)
		if !wrong {
			wantAgain(t, together)
			rights++
		}
		for i := 0; i < len(all) && len(writes) < 4; i++ {
			own, r := s.Clone(), p.clone()
			want, e := r.apply(all[i:i+1], points()[0]), own.Apply(all[i:i+1], points()[0])
			if e != want {
				t.Fatalf("Apply of %s behind %s: %d, not %d", brief(all[i]), brief(writes), e, want)
			}
			wantSame(t, own, r)
			if !wrong {
				try(own, r, append(slices.Clone(writes), all[i]), e != api.OK)
			}
		}
		wantSame(t, s, p)
	}
	s, p := state.New(), &paper{}
	wantApply(t, s, p, ahead, points()[2])
	try(s, p, nil, false)
	if rights < 1000 {
		t.Error("few may be:", rights)
	}
}

// chance makes writes, most of them such as may be by the tables on paper.
type chance struct {
	*rand.Rand
}

func (c chance) of(l ...string) string { return l[c.IntN(len(l))] }

func (c chance) value(column api.Column) api.Value {
	switch {
	case column.None && c.IntN(3) == 0 || c.IntN(100) == 0:
		return null()
	case column.Kind == api.Bool:
		return flag(c.IntN(2))
	case column.Kind == api.Int:
		return whole(c.IntN(60) - 30)
	case column.Kind == api.Text:
		return text(c.of("", "a", "b", "aa", "\x00", "ä", "ab", "a\x00", "\x01", "c"))
	}
	return blob(c.of("", "\xff", "\x00\x01", "b"))
}

func (c chance) schema() api.Schema {
	s := of(1+c.IntN(2), must("id", 1+c.IntN(4)), must("n", 1+c.IntN(4)))
	for _, name := range []string{"s", "x"}[:c.IntN(3)] {
		s.Columns = append(s.Columns, api.Column{Name: name, Kind: 1 + c.IntN(4), None: c.IntN(3) > 0})
	}
	return s
}

func (c chance) write(p *paper) api.Write {
	name := c.of("a", "b", "ab", "d", "d0", "d_")
	if there := p.names(); len(there) > 0 && c.IntN(15) > 0 {
		name = c.of(there...)
	}
	g := p.pages[name]
	var row api.Row
	for _, column := range g.own.Columns {
		row = append(row, c.value(column))
	}
	key := row[:min(g.own.Keys, len(row))]
	if len(g.rows) > 0 && c.IntN(2) == 0 {
		copy(key, g.rows[c.IntN(len(g.rows))])
	}
	column := may(c.of("id", "n", "s", "x", "y", "z"), 1+c.IntN(4))
	switch c.IntN(40) {
	case 0, 1:
		return create(c.of("a", "b", "ab", "d", "d0", "d_"), c.schema())
	case 2:
		return drop(name)
	case 3:
		return add(name, column)
	case 4:
		return cut(name, column.Name)
	case 5:
		return retype(name, column)
	case 6, 7, 8, 9, 10:
		return off(name, key...)
	}
	return put(name, row...)
}

// writes is some writes, most often such as may be one behind the other.
func (c chance) writes(p *paper) []api.Write {
	var l []api.Write
	own := p.clone()
	for range c.IntN(8) {
		w := c.write(own)
		if own.apply([]api.Write{w}, api.Point{}) == api.OK || c.IntN(10) == 0 {
			l = append(l, w)
		}
	}
	return l
}

func (c chance) point() api.Point {
	p := api.Point{At: c.IntN(1000), Many: c.IntN(9), Chunk: c.IntN(9)}
	for _, name := range []string{"a", "b", "d"}[:c.IntN(4)] {
		p.Works = append(p.Works, api.Work{Table: name, Done: c.IntN(2) == 0})
	}
	if c.IntN(30) == 0 {
		p.At = -1
	}
	return p
}

// step does a group on a state and on paper, by Apply or as bytes.
func (c chance) step(t *testing.T, s *state.State, p *paper) api.Errno {
	t.Helper()
	writes, point := c.writes(p), c.point()
	b, _ := wal.Write(p.tables(), writes, point)
	want := p.apply(writes, point)
	if c.IntN(2) == 0 {
		if e := s.Apply(writes, point); e != want {
			t.Fatalf("Apply of %s, %v: %d, not %d", brief(writes), point, e, want)
		}
		return want
	}
	if e := s.Put(b); (e == api.OK) != (want == api.OK) || e != api.OK && e != api.ErrForm {
		t.Fatalf("Put of %s, %v: %d, not %d", brief(writes), point, e, want)
	}
	return want
}

// P15.1 to P15.4: long rows of groups, with clones that go on elsewhere.
func TestLongRows(t *testing.T) {
	told, most := map[api.Errno]int{}, 0
	for seed := range uint64(60) {
		c := chance{rand.New(rand.NewPCG(seed, 15))}
		s, p := state.New(), &paper{}
		kept, q := s.Clone(), p.clone()
		for i := range 200 {
			told[c.step(t, s, p)]++
			if i%10 == 9 {
				wantSame(t, s, p)
				wantSame(t, kept, q)
				wantAgain(t, s)
			}
			switch c.IntN(40) {
			case 0:
				kept, q = s.Clone(), p.clone()
			case 1:
				s, p, kept, q = kept, q, s, p
			case 2:
				b := s.Bytes()
				if s = state.New(); s.Put(b) != api.OK {
					t.Fatal(seed, i)
				}
			}
			most = max(most, s.Len())
		}
	}
	for _, e := range []api.Errno{api.OK, api.ErrArg, api.ErrNone, api.ErrExist, api.ErrRow, api.ErrSchema} {
		if told[e] < 20 {
			t.Errorf("%d was told %d times only", e, told[e])
		}
	}
	if most < 50 {
		t.Error("few rows:", most)
	}
}

// R5: the same calls tell the same bytes.
func TestAgain(t *testing.T) {
	var first []byte
	for turn := range 10 {
		c := chance{rand.New(rand.NewPCG(7, 15))}
		s, p := state.New(), &paper{}
		var all []byte
		for range 150 {
			c.step(t, s, p)
			all = append(all, s.Bytes()...)
		}
		if turn == 0 {
			first = all
		} else if !bytes.Equal(all, first) {
			t.Fatalf("turn %d: other bytes", turn)
		}
	}
	if len(first) < 5000 {
		t.Error("little is told:", len(first))
	}
}

// deed is what a source does where a row is put or is off.
func deed(p *paper, w api.Write) api.Deed {
	d := api.Deed{Kind: api.DoInsert, Table: w.Table, Row: w.Row}
	if _, there := p.pages[w.Table].at(w.Row); there {
		d.Kind = api.DoUpdate
	}
	if w.Kind == api.Off {
		d.Kind = api.DoDelete
	}
	return d
}

// P15.1, P15.2: who is told all that a source's log tells, transaction by
// transaction, has what the source has.
func TestOfSource(t *testing.T) {
	rows := 0
	for seed := range uint64(20) {
		c := chance{rand.New(rand.NewPCG(seed, 51))}
		s, p := source.New(), &paper{}
		for range 150 {
			w := c.write(p)
			if _, e := wal.Write(p.tables(), []api.Write{w}, api.Point{}); e != api.OK {
				continue
			}
			done := api.OK
			switch {
			case w.Kind == api.Turn:
				done = s.Alter(w.Change)
			case c.IntN(9) == 0:
				s.Undo([]api.Deed{deed(p, w)})
				continue
			default:
				done = s.Do([]api.Deed{deed(p, w)})
			}
			if done == api.OK {
				p.apply([]api.Write{w}, api.Point{})
			}
		}
		rows += wantOfSource(t, s, p)
	}
	if rows < 200 {
		t.Error("few rows:", rows)
	}
}

// wantOfSource checks a state that is told a source's log; how many rows it has.
func wantOfSource(t *testing.T, s *source.Source, p *paper) int {
	t.Helper()
	got := state.New()
	var open []api.Write
	all, _, _ := binlog.Events(s.Log())
	for _, e := range all {
		w, ok := wal.Of(e)
		switch {
		case ok:
			open = append(open, w)
		case e.Kind == api.Begin:
			open = nil
		case e.Kind == api.Commit:
			if errno := got.Apply(open, api.Point{}); errno != api.OK {
				t.Fatalf("Apply of %s: %d", brief(open), errno)
			}
		}
	}
	wantSame(t, got, p)
	for _, own := range s.Tables() {
		if !sameRows(got.Rows(own.Name), s.Rows(own.Name)) {
			t.Fatalf("Rows of %s: %v, not %v", own.Name, got.Rows(own.Name), s.Rows(own.Name))
		}
	}
	if !slices.EqualFunc(got.Tables(), s.Tables(), sameTable) {
		t.Fatalf("Tables: %v, not %v", got.Tables(), s.Tables())
	}
	return got.Len()
}
