package sink_test

import (
	"bytes"
	"math/rand/v2"
	"slices"
	"strings"
	"testing"

	"pantograph/api"
	"pantograph/binlog"
	"pantograph/disk"
	"pantograph/sink"
	"pantograph/state"
	"pantograph/wal"
)

// paper is a sink on paper, on a disk of its own.
type paper struct {
	disk *disk.Disk
	has  *state.State
	size int
	bad  bool
}

// openOnPaper is the sink of a disk.
func openOnPaper(d *disk.Disk) (*paper, api.Errno) {
	if d.Down() {
		return nil, api.ErrDown
	}
	if slices.Contains(d.List(), "new") {
		if e := d.Remove("new"); e != api.OK {
			return nil, e
		}
	}
	if !slices.Contains(d.List(), "log") {
		if e := d.Create("log"); e != api.OK {
			return nil, e
		}
	}
	b, _ := d.Read("log")
	p := &paper{disk: d, has: state.New()}
	for body, behind, e := binlog.Next(b, 0); e == api.OK && p.has.Put(body) == api.OK; {
		p.size = behind
		body, behind, e = binlog.Next(b, behind)
	}
	if p.size < len(b) {
		if e := p.compact(); e != api.OK {
			return nil, e
		}
	}
	return p, api.OK
}

// commit writes a group.
func (p *paper) commit(g group) api.Errno {
	if p.bad {
		return api.ErrBad
	}
	body, e := wal.Write(p.has.Tables(), g.writes, g.point)
	if e != api.OK {
		return e
	}
	if e = p.disk.Append("log", frames(body)); e == api.ErrFull {
		return e
	}
	if e == api.OK {
		e = p.disk.Sync("log")
	}
	if e != api.OK {
		p.bad = true
		return e
	}
	p.size += len(frames(body))
	return p.has.Put(body)
}

// compact writes the state anew.
func (p *paper) compact() api.Errno {
	if p.bad {
		return api.ErrBad
	}
	b := compact(p.has)
	e := p.disk.Create("new")
	if e == api.OK {
		e = p.disk.Append("new", b)
		if e == api.OK {
			e = p.disk.Sync("new")
		}
		if e == api.OK {
			e = p.disk.Rename("new", "log")
		}
		if e != api.OK {
			p.disk.Remove("new")
		}
	}
	if e == api.OK {
		p.size = len(b)
	}
	p.bad = p.disk.Down()
	return e
}

// twin is a sink and one on paper, that are told the same, on disks that are told
// the same.
type twin struct {
	disks [2]*disk.Disk
	sink  *sink.Sink
	paper *paper
}

// twins is twins on new disks of a room.
func twins(t *testing.T, room int) *twin {
	t.Helper()
	w := &twin{disks: [2]*disk.Disk{disk.New(room), disk.New(room)}}
	want(t, w.open(t), api.OK)
	return w
}

// both does a deed on both disks.
func (w *twin) both(t *testing.T, deed func(d *disk.Disk) api.Errno) api.Errno {
	t.Helper()
	a, b := deed(w.disks[0]), deed(w.disks[1])
	if a != b {
		t.Fatalf("the disks are not the same: %d, %d", a, b)
	}
	return a
}

// open opens both anew; where that fails they stay as they were.
func (w *twin) open(t *testing.T) api.Errno {
	t.Helper()
	s, e := sink.Open(w.disks[0])
	p, errno := openOnPaper(w.disks[1])
	if e != errno || (s == nil) != (e != api.OK) {
		t.Fatalf("Open: %v, %d, not %d", s, e, errno)
	}
	if e == api.OK {
		w.sink, w.paper = s, p
	}
	return e
}

// commit commits on both.
func (w *twin) commit(t *testing.T, g group) api.Errno {
	t.Helper()
	e, errno := w.sink.Commit(g.writes, g.point), w.paper.commit(g)
	if e != errno {
		t.Fatalf("Commit of %v: %d, not %d", g, e, errno)
	}
	return e
}

// compact writes both anew.
func (w *twin) compact(t *testing.T) api.Errno {
	t.Helper()
	e, errno := w.sink.Compact(), w.paper.compact()
	if e != errno {
		t.Fatalf("Compact: %d, not %d", e, errno)
	}
	return e
}

// wantSame checks that both are the same.
func (w *twin) wantSame(t *testing.T) {
	t.Helper()
	wantSink(t, w.sink, w.paper.has, w.paper.size, w.paper.bad)
	a, b := w.disks[0], w.disks[1]
	if a.Down() != b.Down() || a.Free() != b.Free() || !slices.Equal(a.List(), b.List()) {
		t.Fatalf("%t, %d, %q; not %t, %d, %q", a.Down(), a.Free(), a.List(), b.Down(), b.Free(), b.List())
	}
	for _, name := range b.List() {
		got, _ := a.Read(name)
		if b, _ := b.Read(name); !bytes.Equal(got, b) {
			t.Fatalf("%s: %q, not %q", name, got, b)
		}
	}
}

// call is something that twins are told.
type call func(w *twin, t *testing.T) api.Errno

// deeds is a call that does something on both disks.
func deeds(deed func(d *disk.Disk) api.Errno) call {
	return func(w *twin, t *testing.T) api.Errno { return w.both(t, deed) }
}

func arm(n int) call {
	return deeds(func(d *disk.Disk) api.Errno { d.Arm(n); return api.OK })
}

func up(keep ...int) call {
	return deeds(func(d *disk.Disk) api.Errno { d.Up(keep); return api.OK })
}

// tail leaves some bytes behind the log, left a file new.
func tail(b string) call {
	return deeds(func(d *disk.Disk) api.Errno { return d.Append("log", []byte(b)) })
}

func left() call {
	return deeds(func(d *disk.Disk) api.Errno { return d.Create("new") })
}

func commit(n int, l ...api.Write) call {
	return func(w *twin, t *testing.T) api.Errno { return w.commit(t, group{l, api.Point{At: n}}) }
}

// calls is calls that meet each other in most ways.
func calls() []call {
	return []call{
		commit(1, put("t", whole(1), text("a"))), commit(2), commit(3, put("t", whole(2), text(strings.Repeat("b", 30)))), commit(-1), commit(4, off("t", whole(1)), off("u", whole(1))),
		(*twin).compact, (*twin).open, arm(0), arm(1), arm(3), up(1000, 3), up(-41, -41), tail("tail"), left(),
	}
}

// P16.1 to P16.3: all rows of some calls, behind a table with a row, on a disk of
// little room.
func TestAllRows(t *testing.T) {
	all, told := calls(), map[api.Errno]int{}
	var try func(l []int, left int)
	try = func(l []int, left int) {
		w := twins(t, 160)
		want(t, w.commit(t, group{[]api.Write{create("t"), put("t", whole(1), null())}, at(7)}), api.OK)
		for i, n := range l {
			e := all[n](w, t)
			if i == len(l)-1 {
				w.wantSame(t)
				told[e]++
			}
		}
		if left > 0 {
			for n := range all {
				try(append(l[:len(l):len(l)], n), left-1)
			}
		}
	}
	try(nil, 4)
	for _, e := range []api.Errno{api.OK, api.ErrArg, api.ErrNone, api.ErrExist, api.ErrFull, api.ErrDown, api.ErrBad} {
		if told[e] < 20 {
			t.Errorf("%d was told %d times only", e, told[e])
		}
	}
}

// chance makes groups, most of them such as may be.
type chance struct {
	*rand.Rand
}

func (c chance) of(l ...string) string { return l[c.IntN(len(l))] }

func (c chance) write(l []api.Table) api.Write {
	if len(l) == 0 || c.IntN(40) == 0 {
		return create(c.of("a", "b", "c"))
	}
	own := l[c.IntN(len(l))]
	key := whole(c.IntN(20) - 5)
	switch c.IntN(60) {
	case 0:
		return drop(own.Name)
	case 1:
		return cut(own.Name, "name")
	case 2:
		return turn(api.Change{Kind: api.Add, Table: own.Name, Column: may("name", api.Text)})
	case 3:
		return put(c.of("a", "b", "c"), key)
	case 4, 5, 6, 7, 8, 9, 10, 11, 12, 13, 14, 15:
		return off(own.Name, key)
	}
	row := api.Row{key}
	if len(own.Schema.Columns) > 1 {
		row = append(row, text(strings.Repeat("x", c.IntN(12))))
	}
	return put(own.Name, row...)
}

func (c chance) group(l []api.Table) group {
	g := group{point: api.Point{At: c.IntN(1000) - 5, Many: c.IntN(9), Chunk: c.IntN(9)}}
	for range c.IntN(6) {
		w := c.write(l)
		if behind, e := wal.Behind(l, []api.Write{w}); e == api.OK {
			l = behind
		} else if c.IntN(4) > 0 {
			continue
		}
		g.writes = append(g.writes, w)
	}
	return g
}

// step does a call on twins.
func (c chance) step(t *testing.T, w *twin) api.Errno {
	t.Helper()
	switch n := c.IntN(50); {
	case n < 2:
		return tail("tail"[:1+c.IntN(4)])(w, t)
	case n < 3:
		return left()(w, t)
	case n < 7:
		return w.compact(t)
	case n < 9:
		return w.open(t)
	case n < 13:
		return arm(c.IntN(12)-1)(w, t)
	}
	return w.commit(t, c.group(w.paper.has.Tables()))
}

// up lets the power of both come back, and opens both anew, until that is done.
func (c chance) up(t *testing.T, w *twin) {
	t.Helper()
	for {
		up(c.IntN(300)-100, c.IntN(300)-100)(w, t)
		// The old one is told something now and then though it is bad.
		if c.IntN(3) == 0 {
			c.step(t, w)
		}
		if n := c.IntN(20); n < 6 {
			arm(n)(w, t)
		}
		if w.open(t) != api.ErrDown {
			return
		}
	}
}

// P16.1 to P16.4: long rows of calls, on disks of much and of little room.
func TestLongRows(t *testing.T) {
	told, most := map[api.Errno]int{}, 0
	for seed := range uint64(120) {
		c := chance{rand.New(rand.NewPCG(seed, 16))}
		w := twins(t, []int{300, 700, 1500, 4000, plenty}[seed%5])
		for range 150 {
			told[c.step(t, w)]++
			if w.disks[0].Down() || w.sink.Bad() {
				w.wantSame(t)
				c.up(t, w)
			}
			w.wantSame(t)
			most = max(most, w.paper.has.Len())
		}
	}
	for _, e := range []api.Errno{api.OK, api.ErrArg, api.ErrNone, api.ErrExist, api.ErrRow, api.ErrFull, api.ErrDown, api.ErrBad} {
		if told[e] < 20 {
			t.Errorf("%d was told %d times only", e, told[e])
		}
	}
	if most < 20 {
		t.Error("few rows:", most)
	}
}

// R5: the same calls leave the same bytes.
func TestAgain(t *testing.T) {
	var first []byte
	for turn := range 10 {
		c := chance{rand.New(rand.NewPCG(5, 16))}
		w := twins(t, plenty)
		var all []byte
		for range 100 {
			w.commit(t, c.group(w.paper.has.Tables()))
			if c.IntN(9) == 0 {
				w.compact(t)
			}
			b, _ := w.disks[0].Read("log")
			all = append(all, b...)
		}
		if turn == 0 {
			first = all
		} else if !bytes.Equal(all, first) {
			t.Fatalf("turn %d: other bytes", turn)
		}
	}
	if len(first) < 5000 {
		t.Error("few bytes:", len(first))
	}
}
