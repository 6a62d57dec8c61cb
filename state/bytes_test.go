package state_test

import (
	"bytes"
	"slices"
	"testing"

	"pantograph/api"
	"pantograph/lay"
	"pantograph/state"
	"pantograph/wal"
)

// P15.3: some states, byte by byte.
func TestBytes(t *testing.T) {
	const (
		t1 = "\x0b\x06\x01\x01t\x01\x01\x02id\x02\x00"
		u2 = "\x12\x06\x01\x01u\x01\x02\x02id\x02\x00\x04name\x03\x01"
	)
	for _, c := range []struct {
		writes []api.Write
		p      api.Point
		want   string
	}{
		{nil, api.Point{}, "\x00\x00\x00\x00\x00"},
		{nil, api.Point{At: 300, Many: 2, Chunk: 1, Works: []api.Work{{Table: "t", Done: true}}}, "\x00\xac\x02\x02\x01\x01\x01t\x01\x00"},
		{[]api.Write{create("t", single())}, api.Point{Many: 5}, "\x01" + t1 + "\x00\x05\x00\x00"},
		{[]api.Write{create("t", single()), put("t", whole(3)), put("t", whole(-1))}, api.Point{}, "\x03" + t1 + "\x05\x04\x01t\x00\x01\x05\x04\x01t\x00\x06\x00\x00\x00\x00"},
		// All tables come first, then all rows, whatever the row in which they came.
		{[]api.Write{create("u", pair()), put("u", whole(1), null()), create("t", single()), put("t", whole(2))}, api.Point{At: 7}, "\x04" + t1 + u2 + "\x05\x04\x01t\x00\x04\x05\x04\x01u\x02\x02\x07\x00\x00\x00"},
		// What is gone is not told, and a table as it is now.
		{[]api.Write{create("u", single()), put("u", whole(1)), add("u", may("name", api.Text)), create("t", single()), put("t", whole(2)), off("t", whole(2)), create("v", people()), drop("v")}, api.Point{}, "\x03" + t1 + u2 + "\x05\x04\x01u\x02\x02\x00\x00\x00\x00"},
	} {
		s := state.New()
		if e := s.Apply(c.writes, c.p); e != api.OK || string(s.Bytes()) != c.want {
			t.Errorf("Bytes behind %s: %q, %d, not %q", brief(c.writes), s.Bytes(), e, c.want)
		}
		wantAgain(t, s)
	}
}

// wantAgain checks that a state's bytes make the same one.
func wantAgain(t *testing.T, s *state.State) {
	t.Helper()
	again, b := state.New(), s.Bytes()
	if e := again.Put(b); e != api.OK {
		t.Fatalf("Put of %.300q: %d", b, e)
	}
	p := &paper{pages: map[string]page{}, point: s.Point()}
	for _, own := range s.Tables() {
		p.pages[own.Name] = page{own.Schema, s.Rows(own.Name)}
	}
	wantSame(t, again, p)
	wantSame(t, s, p)
}

// P15.3: a group's bytes do what the group does.
func TestPut(t *testing.T) {
	for _, writes := range [][]api.Write{
		nil, {put("pair", whole(7), text("other"))}, {off("pair", whole(7)), off("pair", whole(8))}, {drop("pair"), create("pair", people()), put("pair", text(""), whole(0), flag(1), null(), null())},
		{add("pair", may("x", api.Bool)), put("pair", whole(1), null(), flag(1)), cut("pair", "name"), retype("pair", may("x", api.Int)), put("pair", whole(2), whole(9))},
	} {
		for _, point := range points() {
			s, p := some(t)
			b, e := wal.Write(p.tables(), writes, point)
			if e != api.OK || s.Put(b) != api.OK || p.apply(writes, point) != api.OK {
				t.Fatalf("Put of %.200q fails", b)
			}
			wantSame(t, s, p)
			wantAgain(t, s)
		}
	}
	// By the tables that there are then: the same bytes mean another thing, or
	// nothing.
	s, p := some(t)
	b, _ := wal.Write(p.tables(), []api.Write{put("pairs", whole(7))}, points()[1])
	wantApply(t, s, p, []api.Write{drop("pairs"), create("pairs", of(1, must("name", api.Bytes)))}, points()[2])
	wantForm(t, s, p, b)
	wantApply(t, s, p, []api.Write{drop("pairs"), create("pairs", of(1, must("other", api.Int)))}, points()[2])
	if e := s.Put(b); e != api.OK {
		t.Fatal(e)
	}
	p.apply([]api.Write{put("pairs", whole(7))}, points()[1])
	wantSame(t, s, p)
}

// wantForm checks that bytes are no group's by the tables that there are, and
// nothing is done.
func wantForm(t *testing.T, s *state.State, p *paper, b []byte) {
	t.Helper()
	if e := s.Put(b); e != api.ErrForm {
		t.Fatalf("Put of %.300q: %d", b, e)
	}
	wantSame(t, s, p)
}

// group is the bytes of writes that are handed in as bytes, and of a point.
func group(point string, writes ...string) []byte {
	b := lay.Number(nil, len(writes))
	for _, w := range writes {
		b = lay.Text(b, w)
	}
	return append(b, point...)
}

// P15.3: bytes that are no group's are told, and nothing is done.
func TestNoGroup(t *testing.T) {
	const (
		zero = "\x00\x00\x00\x00"
		one  = "\x04\x05pairs\x00\x02"
	)
	s, p := some(t)
	right, q := s.Clone(), p.clone()
	if e := right.Put(group(zero, one)); e != api.OK || q.apply([]api.Write{put("pairs", whole(1))}, api.Point{}) != api.OK {
		t.Fatal(e)
	}
	wantSame(t, right, q)
	for _, b := range [][]byte{
		nil, {}, {0}, []byte(zero), []byte(zero + "\x00\x00"), []byte("\x01\x00" + zero), []byte("\x01" + zero), []byte("\xff\xff\xff\xff\xff\xff\xff\xff\x7f" + zero), []byte("\x80\x00" + zero),
		group("", one), group(zero[1:], one), group(zero+"\x00", one), group(zero, one, ""), group(zero, one+"\x00"), group(zero, one[1:]),
		// No work that is neither done nor not, none that do not rise, no key's text.
		group("\x00\x00\x00\x01\x01t\x02\x00", one), group("\x00\x00\x00\x02\x01u\x00\x00\x01t\x00\x00", one), group("\x00\x00\x00\x01\x01t\x00\x01x", one),
		// Bytes of events that are no write's: an Insert, a Begin, a Commit, a Low mark.
		group(zero, "\x03"+one[1:]), group(zero, "\x02\x05"), group(zero, "\x07\x05"), group(zero, one, "\x09\x05"), group(zero, "\x0b\x05"),
		// Of no table, of a row that does not fit, of a key that is none.
		group(zero, one, "\x04\x05other\x00\x02"), group(zero, "\x04\x04pair\x00\x02", one), group(zero, one, "\x05\x04pair\x01"), group(zero, one, "\x05\x05other\x00\x02"),
		// Changes that can't be followed, or that leave no table to what is behind.
		group(zero, one, "\x06\x02\x05other"), group(zero, one, "\x06\x01\x05pairs\x01\x01\x02id\x02\x00"), group(zero, one, "\x06\x04\x04pair\x02id"), group(zero, "\x06\x02\x05pairs", one), group(zero, one, "\x06\x09\x05pairs"),
	} {
		wantForm(t, s, p, b)
	}
	// It has tables already: those of its own bytes can't be created once more.
	wantForm(t, s, p, s.Bytes())
}

// P15.3, T5: bytes that are cut off, or of which one is changed, are no group's,
// or those of another one that may be; each makes what its group makes.
func TestChangedBytes(t *testing.T) {
	s, p := some(t)
	writes := []api.Write{put("pair", whole(7), text("other")), off("pairs", whole(0)), add("a", may("x", api.Int)), cut("pair", "name"), create("b", single()), put("b", whole(5))}
	b, _ := wal.Write(p.tables(), writes, points()[0])
	for i := range b {
		wantForm(t, s, p, b[:i])
	}
	puts := 0
	for i := range b {
		for n := range 256 {
			other := bytes.Clone(b)
			other[i] = byte(n)
			group, point, errno := wal.Read(p.tables(), other)
			if errno != api.OK {
				if e := s.Put(other); e != api.ErrForm {
					t.Fatalf("Put of %q: %d", other, e)
				}
				continue
			}
			c, q := s.Clone(), p.clone()
			if e, want := c.Put(other), q.apply(group, point); e != api.OK || want != api.OK {
				t.Fatalf("Put of %q: %d, %d", other, e, want)
			}
			wantSame(t, c, q)
			puts++
		}
	}
	wantSame(t, s, p)
	if puts < 1000 {
		t.Error("few are a group's:", puts)
	}
}

// P15.3: a clone has the same, and neither hangs on the other.
func TestClone(t *testing.T) {
	changes := [][]api.Write{
		nil, {put("pair", whole(7), text("other"))}, {put("pair", whole(8), null())}, {off("pair", whole(7))}, {drop("pair")}, {drop("pair"), create("pair", pair())}, {create("b", pair()), put("b", whole(1), null())},
		{add("pair", may("x", api.Bool))}, {cut("pair", "name")}, {retype("pair", may("name", api.Int))}, {put("pair", whole(7), text("other")), cut("people", "face"), drop("pairs")},
	}
	for _, first := range changes {
		for _, second := range changes {
			s, p := some(t)
			c, q := s.Clone(), p.clone()
			wantSame(t, c, q)
			wantApply(t, s, p, first, points()[1])
			wantSame(t, c, q)
			wantApply(t, c, q, second, points()[2])
			wantSame(t, s, p)
			// A clone's clone, too, whatever becomes of that.
			d, r := c.Clone(), q.clone()
			wantApply(t, c, q, []api.Write{drop("a")}, points()[3])
			wantSame(t, d, r)
			wantAgain(t, d)
		}
	}
	s, p := state.New(), &paper{}
	c, q := s.Clone(), &paper{}
	wantApply(t, s, p, []api.Write{create("t", single()), put("t", whole(1))}, points()[0])
	wantSame(t, c, q)
	wantApply(t, c, q, []api.Write{create("t", pair())}, points()[2])
	wantSame(t, s, p)
}

// P15.3: a group of bytes that is put changes a clone as little as Apply.
func TestCloneAndPut(t *testing.T) {
	s, p := some(t)
	c, q := s.Clone(), p.clone()
	writes := []api.Write{put("pair", whole(7), text("other")), drop("pairs"), cut("people", "face")}
	b, _ := wal.Write(p.tables(), writes, points()[2])
	if e := s.Put(b); e != api.OK || p.apply(writes, points()[2]) != api.OK {
		t.Fatal(e)
	}
	wantSame(t, s, p)
	wantSame(t, c, q)
}

// P15.4: the bytes hang on what there is alone, not on how it came there.
func TestBytesOfTheSame(t *testing.T) {
	s, _ := some(t)
	want := s.Bytes()
	writes := someWrites()
	tables, rows := writes[:5], writes[5:]
	slices.Reverse(tables)
	slices.Reverse(rows)
	c := state.New()
	for i, w := range slices.Concat([]api.Write{create("gone", single()), put("gone", whole(1))}, tables, rows, []api.Write{put("pairs", whole(-9)), off("pairs", whole(-9)), drop("gone")}) {
		if e := c.Apply([]api.Write{w}, api.Point{At: i}); e != api.OK {
			t.Fatal(i, e)
		}
	}
	if e := c.Apply(nil, points()[0]); e != api.OK || !bytes.Equal(c.Bytes(), want) {
		t.Errorf("%q, not %q", c.Bytes(), want)
	}
	wantAgain(t, c)
}
