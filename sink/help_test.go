package sink_test

import (
	"bytes"
	"fmt"
	"slices"
	"strings"
	"testing"

	"pantograph/api"
	"pantograph/binlog"
	"pantograph/chunk"
	"pantograph/disk"
	"pantograph/sink"
	"pantograph/state"
	"pantograph/wal"
)

// plenty is room enough for all that is not about the want of it.
const plenty = 1 << 20

func null() api.Value         { return api.Value{} }
func whole(n int) api.Value   { return api.Value{Kind: api.Int, Number: n} }
func text(s string) api.Value { return api.Value{Kind: api.Text, Text: s} }

// must is a column that has no Null, may is one that may have it.
func must(name string, kind int) api.Column { return api.Column{Name: name, Kind: kind} }
func may(name string, kind int) api.Column {
	return api.Column{Name: name, Kind: kind, None: true}
}

// pair is a schema of a key and a column more, where Null may stand.
func pair() api.Schema {
	return api.Schema{Columns: []api.Column{must("id", api.Int), may("name", api.Text)}, Keys: 1}
}

func put(table string, row ...api.Value) api.Write {
	return api.Write{Kind: api.Put, Table: table, Row: row}
}
func off(table string, key ...api.Value) api.Write {
	return api.Write{Kind: api.Off, Table: table, Row: key}
}
func turn(c api.Change) api.Write { return api.Write{Kind: api.Turn, Change: c} }
func create(table string) api.Write {
	return turn(api.Change{Kind: api.Create, Table: table, Schema: pair()})
}
func drop(table string) api.Write { return turn(api.Change{Kind: api.Drop, Table: table}) }
func cut(table, name string) api.Write {
	return turn(api.Change{Kind: api.Cut, Table: table, Column: api.Column{Name: name}})
}

// group is what one Commit is handed.
type group struct {
	writes []api.Write
	point  api.Point
}

// at is a point that may be.
func at(n int) api.Point {
	return api.Point{At: n, Many: n / 2, Chunk: 1, Works: []api.Work{{Table: "t"}, {Table: "u", Done: true}}}
}

// some is groups that may be, one behind the other, out of nothing: their frames
// differ in length, and one has no writes.
func some() []group {
	return []group{
		{[]api.Write{create("t")}, at(10)},
		{[]api.Write{put("t", whole(2), text("b")), put("t", whole(-1), null())}, at(20)},
		{nil, at(30)},
		{[]api.Write{create("u"), put("u", whole(7), text("")), off("t", whole(2))}, at(300)},
		{[]api.Write{put("t", whole(2), text(strings.Repeat("long", 40)))}, at(400)},
		{[]api.Write{cut("u", "name"), put("u", whole(8)), put("t", whole(2), text("c"))}, api.Point{}},
		{[]api.Write{drop("u")}, at(500)},
	}
}

// made is the state that groups make out of nothing; all of them may be.
func made(l []group) *state.State {
	s := state.New()
	for _, g := range l {
		if e := s.Apply(g.writes, g.point); e != api.OK {
			panic(e)
		}
	}
	return s
}

// bodies is the bytes of groups, each by the tables behind those ahead of it.
func bodies(l []group) [][]byte {
	var all [][]byte
	for i, g := range l {
		b, e := wal.Write(made(l[:i]).Tables(), g.writes, g.point)
		if e != api.OK {
			panic(e)
		}
		all = append(all, b)
	}
	return all
}

// frames is the frames of bodies, side by side.
func frames(l ...[]byte) []byte {
	var b []byte
	for _, body := range l {
		b = binlog.Frame(b, body)
	}
	return b
}

// log is the log of groups.
func log(l []group) []byte { return frames(bodies(l)...) }

// compact is the log of a state, as Compact leaves it.
func compact(s *state.State) []byte { return frames(s.Bytes()) }

// want checks what a call told.
func want(t *testing.T, got, errno api.Errno) {
	t.Helper()
	if got != errno {
		t.Fatalf("told %d, not %d", got, errno)
	}
}

// laid is a disk with some files, a name and its bytes each; all of them are kept.
func laid(t *testing.T, room int, l ...string) *disk.Disk {
	t.Helper()
	d := disk.New(room)
	for i := 0; i < len(l); i += 2 {
		want(t, d.Create(l[i]), api.OK)
		want(t, d.Append(l[i], []byte(l[i+1])), api.OK)
		want(t, d.Sync(l[i]), api.OK)
	}
	return d
}

// open is the sink of a disk.
func open(t *testing.T, d *disk.Disk) *sink.Sink {
	t.Helper()
	s, e := sink.Open(d)
	if e != api.OK || s == nil {
		t.Fatalf("Open: %v, %d", s, e)
	}
	return s
}

// wantNone checks that there is no sink of a disk, and why.
func wantNone(t *testing.T, d *disk.Disk, errno api.Errno) {
	t.Helper()
	if s, e := sink.Open(d); e != errno || s != nil {
		t.Fatalf("Open: %v, %d, not %d", s, e, errno)
	}
}

// told is the sink of a new disk that was told groups.
func told(t *testing.T, room int, l []group) (*disk.Disk, *sink.Sink) {
	t.Helper()
	d := disk.New(room)
	s := open(t, d)
	for _, g := range l {
		want(t, s.Commit(g.writes, g.point), api.OK)
	}
	return d, s
}

func sameRow(a, b api.Row) bool { return slices.Equal(a, b) }

// sameState tells whether two states have the same.
func sameState(a, b *state.State) bool {
	for _, own := range b.Tables() {
		if !slices.EqualFunc(a.Rows(own.Name), b.Rows(own.Name), sameRow) {
			return false
		}
	}
	return a.Len() == b.Len() && chunk.Same(a.Point(), b.Point()) && bytes.Equal(a.Bytes(), b.Bytes())
}

// brief tells a state in some few words.
func brief(s *state.State) string {
	var l []string
	for _, own := range s.Tables() {
		l = append(l, fmt.Sprintf("%s %v", own.Name, s.Rows(own.Name)))
	}
	return fmt.Sprintf("%s %v", strings.Join(l, ", "), s.Point())
}

// wantSink checks all that a sink tells.
func wantSink(t *testing.T, s *sink.Sink, has *state.State, size int, bad bool) {
	t.Helper()
	if got := s.State(); !sameState(got, has) {
		t.Fatalf("State: %s; not %s", brief(got), brief(has))
	}
	if s.Size() != size || s.Bad() != bad {
		t.Fatalf("Size %d, Bad %t; not %d, %t", s.Size(), s.Bad(), size, bad)
	}
}

// wantFiles checks what files there are, a name and its bytes each.
func wantFiles(t *testing.T, d *disk.Disk, l ...string) {
	t.Helper()
	var names []string
	for i := 0; i < len(l); i += 2 {
		names = append(names, l[i])
		if b, e := d.Read(l[i]); e != api.OK || string(b) != l[i+1] {
			t.Fatalf("%s: %q, %d; not %q", l[i], b, e, l[i+1])
		}
	}
	if got := d.List(); !slices.Equal(got, names) {
		t.Fatalf("List: %q, not %q", got, names)
	}
}

// wantKept checks the files, and that they are the same behind a power cut of
// which no loose byte is kept.
func wantKept(t *testing.T, d *disk.Disk, l ...string) {
	t.Helper()
	wantFiles(t, d, l...)
	d.Arm(0)
	want(t, d.Create("cut"), api.ErrDown)
	d.Up(nil)
	wantFiles(t, d, l...)
}

// wantDeeds does a call, and checks how many deeds it is; no loose byte is left.
func wantDeeds(t *testing.T, d *disk.Disk, many int, call func()) {
	t.Helper()
	d.Arm(many)
	call()
	if d.Down() {
		t.Fatalf("more than %d deeds", many)
	}
	want(t, d.Create("cut"), api.ErrDown)
	d.Up(nil)
}
