package wal_test

import (
	"bytes"
	"math"
	"slices"
	"strings"
	"testing"

	"pantograph/api"
	"pantograph/event"
	"pantograph/lay"
	"pantograph/wal"
)

// P14.2: some groups, byte by byte.
func TestWrite(t *testing.T) {
	one := []api.Table{{Name: "t", Schema: pair()}}
	for _, c := range []struct {
		l      []api.Table
		writes []api.Write
		p      api.Point
		want   string
	}{
		{nil, nil, api.Point{}, "\x00\x00\x00\x00\x00"},
		{some(), []api.Write{}, api.Point{Works: []api.Work{}}, "\x00\x00\x00\x00\x00"},
		{nil, nil, api.Point{At: 300, Many: 2, Chunk: 1, Works: []api.Work{{Table: "t", Done: true}}}, "\x00\xac\x02\x02\x01\x01\x01t\x01\x00"},
		{one, []api.Write{put("t", whole(1), null())}, api.Point{}, "\x01\x05\x04\x01t\x02\x02\x00\x00\x00\x00"},
		{one, []api.Write{put("t", whole(-1), text("ab"))}, api.Point{At: 5}, "\x01\x08\x04\x01t\x00\x01\x02ab\x05\x00\x00\x00"},
		{one, []api.Write{off("t", whole(150))}, api.Point{Many: 6}, "\x01\x06\x05\x01t\x00\xac\x02\x00\x06\x00\x00"},
		{one, []api.Write{drop("t")}, api.Point{Chunk: 7}, "\x01\x04\x06\x02\x01t\x00\x00\x07\x00"},
		{one, []api.Write{add("t", may("x", api.Bool))}, api.Point{}, "\x01\x08\x06\x03\x01t\x01x\x01\x01\x00\x00\x00\x00"},
		{one, []api.Write{cut("t", "name")}, api.Point{}, "\x01\x09\x06\x04\x01t\x04name\x00\x00\x00\x00"},
		{one, []api.Write{retype("t", must("name", api.Int))}, api.Point{}, "\x01\x0b\x06\x05\x01t\x04name\x02\x00\x00\x00\x00\x00"},
		{nil, []api.Write{create("t", single())}, api.Point{}, "\x01\x0b\x06\x01\x01t\x01\x01\x02id\x02\x00\x00\x00\x00\x00"},
		{nil, []api.Write{create("t", single()), put("t", whole(3)), off("t", whole(3)), drop("t")}, api.Point{Many: 1}, "\x04\x0b\x06\x01\x01t\x01\x01\x02id\x02\x00\x05\x04\x01t\x00\x06\x05\x05\x01t\x00\x06\x04\x06\x02\x01t\x00\x01\x00\x00"},
		{one, []api.Write{cut("t", "name"), put("t", whole(0))}, api.Point{}, "\x02\x09\x06\x04\x01t\x04name\x05\x04\x01t\x00\x00\x00\x00\x00\x00"},
	} {
		b, e := wal.Write(c.l, c.writes, c.p)
		if e != api.OK || string(b) != c.want {
			t.Errorf("Write of %s: %q, %v, not %q", brief(c.writes), b, e, c.want)
		}
		wantRead(t, c.l, []byte(c.want), c.writes, c.p)
	}
}

// groups is some groups of writes that may be, one behind the other, by some.
func groups() [][]api.Write {
	l := [][]api.Write{nil, {drop("pair")}, {create("a", people()), drop("people")}}
	var all []api.Write
	for _, own := range some() {
		for _, row := range rows(own.Schema) {
			one := []api.Write{put(own.Name, row...), off(own.Name, row[:own.Schema.Keys]...)}
			l = append(l, one[:1], one[1:], one)
			all = append(all, one...)
		}
	}
	l = append(l, all)
	many := slices.Clone(all)
	for _, w := range []api.Write{create("b", pair()), add("pair", may("x", api.Bool)), cut("people", "face"), retype("people", may("name", api.Int)), drop("pairs"), create("pairs", people())} {
		many = append(many, w)
		l = append(l, slices.Clone(many))
		if _, e := wal.Behind(some(), []api.Write{w}); e == api.OK {
			l = append(l, []api.Write{w})
		}
	}
	behind := []api.Write{put("b", whole(1), null()), put("pair", whole(1), null(), flag(1)), put("people", text("a"), whole(2), flag(0), whole(3)), put("pairs", text("a"), whole(2), flag(0), text("b"), blob("c")), off("pairs", text("a"), whole(2))}
	return append(l, append(many, behind...))
}

// P14.2, P14.3: what is written is as the words say it, and is read as the same;
// what is cut off, or has more behind it, is no group's.
func TestReadBack(t *testing.T) {
	for i, writes := range groups() {
		for _, p := range points() {
			b := wantGroup(t, some(), writes, p)
			step := 1 + len(b)/50
			for n := 0; n < len(b); n += step {
				wantForm(t, some(), b[:n])
			}
			wantForm(t, some(), b[:len(b)-1])
			if i < 40 {
				for _, tail := range []string{"\x00", "\x01", "\xff", "\x00\x00\x00\x00", "\x05\x04\x01t\x00\x06", string(b)} {
					wantForm(t, some(), slices.Concat(b, []byte(tail)))
				}
				wantForm(t, some(), slices.Concat([]byte{0}, b))
			}
		}
	}
}

// P14.2: a point that may not be is told ahead of all, and nothing is answered.
func TestWriteWrongPoint(t *testing.T) {
	for _, p := range wrongPoints() {
		for _, writes := range [][]api.Write{nil, {put("pair", whole(1), null())}, {drop("pair")}, {{}}, {put("t")}, {drop("t")}} {
			if b, e := wal.Write(some(), writes, p); e != api.ErrArg || len(b) > 0 {
				t.Errorf("Write of %s, %s: %q, %v", brief(writes), brief(p), b, e)
			}
		}
	}
	for _, point := range []string{"", "\x00", "\x00\x00\x00", "\x80\x00\x00\x00\x00", "\x00\x00\x00\x01\x01T\x00\x00", "\x00\x00\x00\x01\x01t\x02\x00", "\x00\x00\x00\x01\x01t\x01\x01\x00", "\x00\x00\x00\x02\x01b\x00\x00\x01a\x00\x00", "\x00\x00\x00\x01\x01t\x00\x01x", strings.Repeat("\xff", 9) + "\x01\x00\x00\x00"} {
		wantForm(t, some(), []byte("\x00"+point))
		wantForm(t, some(), []byte("\x01\x07\x06\x02\x04pair"+point))
	}
	wantRead(t, some(), []byte("\x01\x07\x06\x02\x04pair\x00\x00\x00\x00"), []api.Write{drop("pair")}, api.Point{})
}

// framed is a group's bytes with these texts as its writes, and the zero point.
func framed(texts ...string) []byte {
	b := lay.Number(nil, len(texts))
	for _, s := range texts {
		b = lay.Text(b, s)
	}
	return append(b, 0, 0, 0, 0)
}

// P14.2: of each kind of events: the bytes of Update, Delete and Alter alone are a
// write's.
func TestReadOtherEvents(t *testing.T) {
	row := api.Row{whole(1), text("a")}
	good := []api.Write{put("pair", row...), off("pair", row[0]), drop("pair")}
	for kind := range 256 {
		for _, e := range []api.Event{{Kind: kind, Number: 1}, {Kind: kind, Table: "pair", After: row}, {Kind: kind, Table: "pair", Before: row[:1]}, {Kind: kind, Change: drop("pair").Change}} {
			body, errno := event.Write(e, some())
			if errno != api.OK {
				continue
			}
			b := framed(string(body))
			switch kind {
			case api.Update, api.Delete, api.Alter:
				wantRead(t, some(), b, good[kind-api.Update:][:1], api.Point{})
			default:
				wantForm(t, some(), b)
				wantForm(t, some(), framed("\x05\x04pair\x00\x02", string(body)))
			}
		}
	}
	for _, s := range []string{"\x01\x01", "\x02\x05", "\x03\x04pair\x02\x02", "\x07\x05", "\x08\x05", "\x09\x05", "\x0a\x05", "\x00", "\x0b\x05", ""} {
		wantForm(t, some(), framed(s))
	}
}

// P14.2: bytes of events that may not be, or can not be followed, by the tables
// that there are then.
func TestReadWrongWrites(t *testing.T) {
	for _, texts := range [][]string{
		{"\x04\x01t\x02\x02"}, {"\x05\x01t\x00\x02"}, {"\x04\x04pair"}, {"\x04\x04pair\x02"}, {"\x04\x04pair\x01\x02"}, {"\x04\x04pair\x04\x02\x00"}, {"\x04\x04pair\x02\x02\x00"}, {"\x04\x04pair\x00\x02\x01\xff"},
		{"\x05\x04pair\x02\x02"}, {"\x05\x04pair\x01"}, {"\x05\x04pair\x00\x02\x00"}, {"\x05\x04pair"}, {"\x06\x02\x04pair\x00"}, {"\x06\x02\x04Pair"}, {"\x06\x00\x04pair"}, {"\x06\x06\x04pair"},
		{"\x06\x02\x01t"}, {"\x06\x01\x04pair\x01\x01\x02id\x02\x00"}, {"\x06\x01\x01t\x02\x01\x02id\x02\x00"}, {"\x06\x01\x01t\x01\x01\x02id\x02\x01"}, {"\x06\x04\x04pair\x02id"}, {"\x06\x04\x04pair\x01x"}, {"\x06\x05\x04pair\x02id\x02\x00"}, {"\x06\x05\x06people\x03old\x02\x01"},
		{"\x06\x03\x04pair\x01x\x02\x00"}, {"\x06\x03\x04pair\x04name\x02\x01"}, {"\x06\x03\x04pair\x01x\x05\x01"}, {"\x06\x03\x04pair\x01x\x02\x02"},
		{"\x06\x02\x04pair", "\x06\x02\x04pair"}, {"\x06\x02\x04pair", "\x04\x04pair\x02\x02"}, {"\x06\x02\x04pair", "\x05\x04pair\x00\x02"}, {"\x04\x01t\x00\x02", "\x06\x01\x01t\x01\x01\x02id\x02\x00"},
		{"\x06\x04\x04pair\x04name", "\x04\x04pair\x02\x02"}, {"\x06\x03\x04pair\x01x\x02\x01", "\x04\x04pair\x00\x02\x01a"}, {"\x04\x04pair\x04\x02\x01a", "\x06\x03\x04pair\x01x\x02\x01"},
	} {
		wantForm(t, some(), framed(texts...))
		wantForm(t, some(), framed(append([]string{"\x06\x01\x01b\x01\x01\x02id\x02\x00"}, texts...)...))
		wantForm(t, some(), framed(append(slices.Clone(texts), "\x06\x01\x01b\x01\x01\x02id\x02\x00")...))
	}
	full := tables(api.MaxTables)
	more := framed("\x06\x01\x01t\x01\x01\x02id\x02\x00")
	wantForm(t, full, more)
	wantRead(t, full[1:], more, []api.Write{create("t", single())}, api.Point{})
	wantForm(t, append([]api.Table{{Name: "t", Schema: single()}}, full[:3]...), more)
}

// P14.2: how many writes there are, and how long each is, is a number's bytes, and
// no other number's.
func TestReadNumbers(t *testing.T) {
	const body, point = "\x05\x04\x01t\x00\x06", "\x00\x00\x00\x00"
	one := []api.Table{{Name: "t", Schema: single()}}
	wantRead(t, one, []byte("\x01"+body+point), []api.Write{put("t", whole(3))}, api.Point{})
	wantRead(t, one, []byte("\x02"+body+body+point), []api.Write{put("t", whole(3)), put("t", whole(3))}, api.Point{})
	over := strings.Repeat("\xff", 8) + "\x7f"
	for _, s := range []string{
		"", "\x00", "\x01", "\x80", "\x81", "\xff", "\x00" + body + point, "\x02" + body + point, "\x01" + body + body + point, "\x03" + body + body + point, "\x81\x00" + body + point, "\x80\x00" + point, "\x80\x80\x00" + point,
		over, over + point, over + body + point, over + strings.Repeat(body, 300) + point, strings.Repeat("\xff", 9) + "\x01" + body + point, strings.Repeat("\xff", 10) + body + point, strings.Repeat("\x80", 10) + point,
		"\x01\x85\x00" + body[1:] + point, "\x01\x04" + body[1:] + point, "\x01\x06" + body[1:] + point, "\x01\x09" + body[1:] + point, "\x01\x7f" + body[1:] + point, "\x01" + over + body[1:] + point, "\x01" + strings.Repeat("\xff", 10) + body[1:] + point, "\x01\x80" + point, "\x01\x00" + point, "\x02" + body + "\x00" + point,
	} {
		wantForm(t, one, []byte(s))
	}
}

// P14.2, P14.3: rows as long as may be, and many writes, in a time that their
// bytes bound.
func TestGreatGroups(t *testing.T) {
	widest := of(1, must("k", api.Bytes))
	row := api.Row{blob(strings.Repeat("\x00", api.MaxText))}
	for i := range api.MaxColumns - 1 {
		widest.Columns = append(widest.Columns, must("c"+strings.Repeat("x", i), api.Text))
		row = append(row, text(strings.Repeat("y", api.MaxText)))
	}
	great := []api.Write{create("t", widest), put("t", row...), off("t", row[0])}
	for len(great) < 60 {
		great = append(great, put("t", row...))
	}
	wantGroup(t, some(), great, points()[3])

	var many []api.Write
	for i := range 60000 {
		many = append(many, put("pairs", whole(i)), off("pairs", whole(i-7)))
	}
	wantGroup(t, some(), many, points()[3])
	var turns []api.Write
	for range 1000 {
		turns = append(turns, create("t", widest), add("pair", may("x", api.Int)), cut("pair", "x"), retype("people", may("name", api.Int)), drop("t"))
	}
	wantGroup(t, some(), turns, points()[3])
}

// P14.2, P14.3: each byte of some groups changed into each other one, left out, and
// told twice: no group's bytes, or just those of the one that is told.
func TestReadChanged(t *testing.T) {
	settled := 0
	for _, writes := range [][]api.Write{nil, {put("pair", whole(150), text("ab"))}, {off("people", text("a"), whole(1)), drop("pairs")}, {create("a", pair()), put("a", whole(1), null()), retype("a", may("name", api.Int)), put("a", whole(2), whole(-3))}, {add("pair", may("x", api.Bool)), put("pair", whole(1), null(), flag(1)), cut("pair", "name")}} {
		b := wantGroup(t, some(), writes, points()[3])
		for i := range b {
			other := bytes.Clone(b)
			for n := range 256 {
				if other[i] = byte(n); wantSettled(t, some(), other) {
					settled++
				}
			}
			wantSettled(t, some(), slices.Delete(bytes.Clone(b), i, i+1))
			wantSettled(t, some(), slices.Insert(bytes.Clone(b), i, b[i]))
		}
	}
	if settled < 1000 {
		t.Error("few were a group's:", settled)
	}
}

// P14.2, P14.3: all texts of some few bytes as a write: it is told just if the text
// is an event's bytes, of a kind that writes have, and can be followed.
func TestReadAllTexts(t *testing.T) {
	const few = "\x00\x01\x02\x03\x04\x05\x06tu"
	one := []api.Table{{Name: "t", Schema: single()}}
	want := 0
	var try func(s string)
	try = func(s string) {
		b := framed(s)
		if wantSettled(t, one, b) {
			e, errno := event.Read([]byte(s), one)
			if errno != api.OK || e.Kind != api.Update && e.Kind != api.Delete && e.Kind != api.Alter {
				t.Fatalf("%q is read", s)
			}
			want--
		}
		if e, errno := event.Read([]byte(s), one); errno == api.OK && e.Kind >= api.Update && e.Kind <= api.Alter {
			if _, errno = event.Follow(one, e.Change); errno == api.OK || e.Kind != api.Alter {
				want++
			}
		}
		for i := 0; i < len(few) && len(s) < 5; i++ {
			try(s + few[i:i+1])
		}
	}
	try("")
	if want != 0 {
		t.Error("so many are not read:", want)
	}
}

// P14.2: no number is too great for what is answered.
func TestGreatNumbers(t *testing.T) {
	p := api.Point{At: math.MaxInt64, Many: math.MaxInt64, Chunk: math.MaxInt64}
	wantGroup(t, some(), []api.Write{put("pairs", whole(math.MinInt64)), off("pairs", whole(math.MaxInt64))}, p)
}
