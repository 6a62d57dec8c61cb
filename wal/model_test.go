package wal_test

import (
	"bytes"
	"math/rand/v2"
	"slices"
	"testing"

	"pantograph/api"
	"pantograph/wal"
)

// onPaperBehind is the tables behind writes, and the first error, on paper.
func onPaperBehind(l []api.Table, writes []api.Write) ([]api.Table, api.Errno) {
	p := onPaper(l)
	for _, w := range writes {
		if e := p.do(w); e != api.OK {
			return nil, e
		}
	}
	return p.list(), api.OK
}

// wantAsOnPaper checks all that is told of writes against paper; whether they may
// be.
func wantAsOnPaper(t *testing.T, l []api.Table, writes []api.Write, p api.Point) bool {
	t.Helper()
	want, errno := onPaperBehind(l, writes)
	wantBehind(t, l, writes, want, errno)
	if errno == api.OK {
		wantGroup(t, l, writes, p)
	} else if b, e := wal.Write(l, writes, p); e != errno || len(b) > 0 {
		t.Fatalf("Write of %s by %s: %.80q, %d, not %d", brief(writes), brief(l), b, e, errno)
	}
	return errno == api.OK
}

// P14.1 to P14.3: all rows of up to five writes out of some, right and wrong ones;
// behind the first wrong one there comes at most one more.
func TestAllRowsOfWrites(t *testing.T) {
	changed := put("t", whole(1), text("a"))
	changed.Change.Kind = api.Drop
	choice := []api.Write{
		put("t", whole(1), text("a")), put("t", whole(1)), put("t", whole(1), text("a"), null()), put("u", whole(1)), off("t", whole(1)), off("u", whole(1)), off("t", whole(1), text("a")),
		create("t", pair()), create("u", single()), drop("t"), drop("u"), add("t", may("x", api.Int)), cut("t", "name"), retype("t", may("name", api.Bytes)), {}, changed,
	}
	p, rights, wrongs := points()[2], 0, 0
	var try func(writes []api.Write, wrong bool)
	try = func(writes []api.Write, wrong bool) {
		right := wantAsOnPaper(t, []api.Table{{Name: "t", Schema: pair()}}, writes, p)
		if right {
			rights++
		} else {
			wrongs++
		}
		for i := 0; i < len(choice) && len(writes) < 5 && !wrong; i++ {
			try(append(slices.Clone(writes), choice[i]), !right)
		}
	}
	try(nil, false)
	if rights < 5000 || wrongs < 50000 {
		t.Error("few may be, or may not be:", rights, wrongs)
	}
}

// chance makes writes, most of them such as may be by the tables on paper.
type chance struct {
	*rand.Rand
	now paper
}

func (c chance) name() string {
	return []string{"a", "b", "c", "ab", "d", "d0", "d_", "people"}[c.IntN(8)]
}
func (c chance) column() string { return []string{"id", "n", "s", "x", "y", "z"}[c.IntN(6)] }

func (c chance) value(column api.Column) api.Value {
	kind := column.Kind
	switch {
	case column.None && c.IntN(3) == 0:
		return null()
	case c.IntN(300) == 0:
		kind = c.IntN(5)
	}
	switch kind {
	case api.Bool:
		return flag(c.IntN(2))
	case api.Int:
		return whole(c.IntN(1000) - 500)
	case api.Text:
		return text([]string{"", "a", "ä\x00", "lang und länger"}[c.IntN(4)])
	case api.Bytes:
		return blob([]string{"", "\xff", "\x00\x01\x02", "b"}[c.IntN(4)])
	}
	return null()
}

func (c chance) schema() api.Schema {
	s := of(1+c.IntN(2), must("id", 1+c.IntN(4)), must("n", 1+c.IntN(4)))
	for _, name := range []string{"s", "x"}[:c.IntN(3)] {
		s.Columns = append(s.Columns, api.Column{Name: name, Kind: 1 + c.IntN(4), None: c.IntN(2) == 0})
	}
	return s
}

func (c chance) write() api.Write {
	name := c.name()
	if there := c.now.list(); len(there) > 0 && c.IntN(10) > 0 {
		name = there[c.IntN(len(there))].Name
	}
	s := c.now[name]
	var row api.Row
	for _, column := range s.Columns {
		row = append(row, c.value(column))
	}
	switch c.IntN(14) {
	case 0:
		return create(c.name(), c.schema())
	case 1:
		return []api.Write{drop(name), add(name, may(c.column(), 1+c.IntN(4)))}[c.IntN(2)]
	case 2:
		return add(name, may(c.column(), 1+c.IntN(4)))
	case 3:
		return cut(name, c.column())
	case 4:
		return retype(name, api.Column{Name: c.column(), Kind: 1 + c.IntN(4), None: c.IntN(2) == 0})
	case 5, 6, 7:
		return off(name, row[:min(s.Keys, len(row))]...)
	}
	return put(name, row...)
}

// group is tables, and writes that may be by them, as many of them as come of so
// many tries; wrong is those that may not be, each with how many writes that may
// be come ahead of it.
func (c chance) group(many int) (l []api.Table, writes []api.Write, wrong map[int]api.Write) {
	for range c.IntN(4) {
		c.now.do(create(c.name(), c.schema()))
	}
	l, wrong = c.now.list(), map[int]api.Write{}
	for range many {
		w := c.write()
		if c.now.do(w) == api.OK {
			writes = append(writes, w)
		} else {
			wrong[len(writes)] = w
		}
	}
	return l, writes, wrong
}

// P14.1 to P14.3: long rows of writes, and some bytes of each changed.
func TestLongRowsOfWrites(t *testing.T) {
	refused, long := 0, 0
	for seed := range uint64(1500) {
		c := chance{rand.New(rand.NewPCG(seed, 14)), paper{}}
		l, writes, wrong := c.group(c.IntN(60))
		p := points()[c.IntN(4)]
		wantAsOnPaper(t, l, writes, p)
		for at, w := range wrong {
			other := append(slices.Clone(writes[:at]), w)
			if wantAsOnPaper(t, l, append(other, writes[at:]...), p) || wantAsOnPaper(t, l, other, p) {
				t.Fatal("it may be:", brief(other))
			}
			refused++
		}
		if len(writes) > 20 {
			long++
		}
		b := plain(l, writes, p)
		for range 30 {
			other := bytes.Clone(b)
			for range 1 + c.IntN(3) {
				other[c.IntN(len(b))] = byte(c.IntN(256))
			}
			wantSettled(t, l, other)
			wantSettled(t, l, b[c.IntN(len(b)):])
		}
	}
	if refused < 3000 || long < 300 {
		t.Error("few are refused, or long:", refused, long)
	}
}
