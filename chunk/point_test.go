package chunk_test

import (
	"bytes"
	"fmt"
	"math"
	"slices"
	"strings"
	"testing"

	"pantograph/api"
	"pantograph/chunk"
	"pantograph/lay"
)

// of is a point.
func of(at, many, number int, l ...api.Work) api.Point {
	return api.Point{At: at, Many: many, Chunk: number, Works: l}
}

// points is some points that may be.
func points(t *testing.T) []api.Point {
	l := []api.Point{of(0, 0, 0)}
	for _, n := range []int{1, 127, 128, 300, 1 << 31, math.MaxInt64} {
		l = append(l, of(n, 0, 0), of(0, n, 0), of(0, 0, n), of(n, n, n, begun("t")), of(7, n, 5, done("a"), upTo("t", id(5))))
	}
	for i, k := range keys(t) {
		l = append(l, of(i, 2*i, 3*i, upTo("t", k)), of(1, 2, 3, upTo("a", k), begun("b"), upTo("c", k), done("d")))
	}
	for _, name := range names() {
		l = append(l, of(1, 2, 3, begun(name)), of(3, 2, 1, done(name)), of(2, 2, 2, upTo(name, id(0))))
	}
	var works []api.Work
	for i := range 300 {
		works = append(works, begun(fmt.Sprintf("t%04d", i)))
		l = append(l, of(i, i, i, works...))
	}
	return l
}

// plain is a point's bytes as the chapter's words say them.
func plain(p api.Point) []byte {
	b := lay.Number(lay.Number(lay.Number(nil, p.At), p.Many), p.Chunk)
	b = lay.Number(b, len(p.Works))
	for _, w := range p.Works {
		b = lay.Text(b, w.Table)
		b = append(b, map[bool]byte{true: 1}[w.Done])
		b = lay.Text(b, w.Key)
	}
	return b
}

// wantPoint checks that bytes are read as a point.
func wantPoint(t *testing.T, b []byte, want api.Point) {
	t.Helper()
	if p, e := chunk.Read(b); e != api.OK || !equal(p, want) {
		t.Fatalf("Read of %.80q: %d %d %d %s%v", b, p.At, p.Many, p.Chunk, sign(p.Works), e)
	}
}

// wantForm checks that bytes are no point's.
func wantForm(t *testing.T, b []byte) {
	t.Helper()
	if p, e := chunk.Read(b); e != api.ErrForm || !equal(p, api.Point{}) {
		t.Fatalf("Read of %.80q: %d %d %d %s%v", b, p.At, p.Many, p.Chunk, sign(p.Works), e)
	}
}

// equal is Same as the chapter's words say it.
func equal(a, b api.Point) bool {
	if a.At != b.At || a.Many != b.Many || a.Chunk != b.Chunk || len(a.Works) != len(b.Works) {
		return false
	}
	for i, w := range a.Works {
		if w.Table != b.Works[i].Table || w.Done != b.Works[i].Done || w.Key != b.Works[i].Key {
			return false
		}
	}
	return true
}

// P11.1: numbers from 0 on, and works that may be.
func TestMay(t *testing.T) {
	for _, p := range points(t) {
		if !chunk.May(p) {
			t.Fatalf("may not be: %d %d %d %s", p.At, p.Many, p.Chunk, sign(p.Works))
		}
	}
	for _, p := range wrongPoints() {
		if chunk.May(p) {
			t.Errorf("may be: %d %d %d %s", p.At, p.Many, p.Chunk, sign(p.Works))
		}
	}
}

// wrongPoints is points that may not be.
func wrongPoints() []api.Point {
	var l []api.Point
	for _, n := range []int{-1, -2, -128, math.MinInt64} {
		l = append(l, of(n, 0, 0), of(0, n, 0), of(0, 0, n), of(n, n, n), of(n, 1, 1, done("a")), of(1, n, 1, done("a")), of(1, 1, n, done("a")))
	}
	for _, works := range [][]api.Work{
		{{}}, {begun("A")}, {begun("a"), begun("a")}, {begun("b"), begun("a")}, {upTo("a", "x")}, {{Table: "a", Done: true, Key: id(1)}}, {begun("a"), begun("b"), {}}, {begun(long() + "z")},
	} {
		l = append(l, of(0, 0, 0, works...), of(1, 2, 3, works...))
	}
	return l
}

// P11.3: some points, byte by byte.
func TestWrite(t *testing.T) {
	for _, c := range []struct {
		p    api.Point
		want string
	}{
		{of(0, 0, 0), "\x00\x00\x00\x00"},
		{api.Point{Works: []api.Work{}}, "\x00\x00\x00\x00"},
		{of(1, 2, 3), "\x01\x02\x03\x00"},
		{of(300, 128, 127), "\xac\x02\x80\x01\x7f\x00"},
		{of(math.MaxInt64, 0, 1), strings.Repeat("\xff", 8) + "\x7f\x00\x01\x00"},
		{of(0, 0, 0, begun("t")), "\x00\x00\x00\x01\x01t\x00\x00"},
		{of(0, 0, 0, done("t")), "\x00\x00\x00\x01\x01t\x01\x00"},
		{of(9, 8, 7, upTo("t", id(5))), "\x09\x08\x07\x01\x01t\x00\x09\x02\x80\x00\x00\x00\x00\x00\x00\x05"},
		{of(9, 8, 7, done("a"), upTo("bc", "\x00"), begun("d")), "\x09\x08\x07\x03\x01a\x01\x00\x02bc\x00\x01\x00\x01d\x00\x00"},
	} {
		b, e := chunk.Write(c.p)
		if e != api.OK || string(b) != c.want {
			t.Errorf("Write: %q, %v, not %q", b, e, c.want)
		}
		wantPoint(t, []byte(c.want), c.p)
	}
}

// P11.3: what may not be has no bytes.
func TestWriteWrong(t *testing.T) {
	for _, p := range wrongPoints() {
		if b, e := chunk.Write(p); e != api.ErrArg || len(b) > 0 {
			t.Errorf("Write of %d %d %d %s: %q, %v", p.At, p.Many, p.Chunk, sign(p.Works), b, e)
		}
		wantForm(t, plainWrong(p))
	}
}

// plainWrong is plain of a point that may not be: numbers below 0 stand as those
// of 64 bits that they are.
func plainWrong(p api.Point) []byte {
	var b []byte
	for _, n := range []int{p.At, p.Many, p.Chunk} {
		u := uint64(n)
		for ; u > 127; u >>= 7 {
			b = append(b, byte(u)|128)
		}
		b = append(b, byte(u))
	}
	rest := plain(api.Point{Works: p.Works})
	return append(b, rest[3:]...)
}

// P11.3, P11.4: what is written is as the words say it, and is read as the same;
// what is cut off, or has more behind it, is no point's.
func TestReadBack(t *testing.T) {
	for _, p := range points(t) {
		b, e := chunk.Write(p)
		if e != api.OK || !bytes.Equal(b, plain(p)) {
			t.Fatalf("Write of %d %d %d %s: %.80q, %v", p.At, p.Many, p.Chunk, sign(p.Works), b, e)
		}
		wantPoint(t, b, p)
		for cut := 0; cut < len(b); cut += 1 + cut/20 {
			wantForm(t, b[:cut])
		}
		wantForm(t, b[:len(b)-1])
		for _, tail := range []string{"\x00", "\x01", "\xff", "\x01t\x00\x00", "\x00\x00\x00\x00", string(b)} {
			wantForm(t, append(b[:len(b):len(b)], tail...))
		}
	}
}

// P11.3: bytes that are no point's.
func TestReadWrong(t *testing.T) {
	over := strings.Repeat("\xff", 8) + "\x7f"
	for _, s := range []string{
		"", "\x00", "\x00\x00", "\x00\x00\x00", "\x80\x00\x00\x00\x00", "\x00\x80\x00\x00\x00", "\x00\x00\x80\x00\x00", "\x00\x00\x00\x80\x00",
		strings.Repeat("\xff", 9) + "\x01\x00\x00\x00", strings.Repeat("\x80", 10) + "\x01\x00\x00\x00", "\x00\x00\x00" + strings.Repeat("\xff", 9) + "\x01",
		"\x00\x00\x00\x01", "\x00\x00\x00\x02\x01t\x00\x00", "\x00\x00\x00\x00\x01t\x00\x00", "\x00\x00\x00\x01\x01t\x00\x00\x01u\x00\x00",
		"\x00\x00\x00" + over, "\x00\x00\x00" + over + "\x01t\x00\x00", "\x00\x00\x00" + over + strings.Repeat("\x01t\x00\x00", 1000), "\x00\x00\x00\xff\xff\xff\xff\x7f",
		"\x00\x00\x00\x01\x00\x00\x00", "\x00\x00\x00\x01\x01T\x00\x00", "\x00\x00\x00\x01\x021t\x00\x00", "\x00\x00\x00\x01\x02\xc3\xa4\x00\x00", "\x00\x00\x00\x01\x81\x00t\x00\x00",
		"\x00\x00\x00\x01" + over + "t\x00\x00", "\x00\x00\x00\x01\x21" + long() + "z\x00\x00", "\x00\x00\x00\x01\x01t\x00" + over, "\x00\x00\x00\x01\x01t\x00" + over + "\x00",
		"\x00\x00\x00\x01\x01t\x00\x01a", "\x00\x00\x00\x01\x01t\x00\x80\x00", "\x00\x00\x00\x01\x01t\x00\x02\x00", "\x00\x00\x00\x01\x01t\x01\x01\x00",
		"\x00\x00\x00\x02\x01t\x00\x00\x01t\x00\x00", "\x00\x00\x00\x02\x01u\x00\x00\x01t\x00\x00", "\x00\x00\x00\x02\x02tt\x00\x00\x01t\x00\x00",
		"\x00\x00\x00\x03\x01a\x00\x00\x01b\x00\x00\x01b\x01\x00",
	} {
		wantForm(t, []byte(s))
	}
}

// P11.3: of each byte that tells whether a work is done: 0 and 1 alone do.
func TestReadDone(t *testing.T) {
	for i := range 256 {
		b := []byte("\x01\x02\x03\x02\x01a\x00\x01\x00\x01t\x00\x00")
		b[11] = byte(i)
		if i > 1 {
			wantForm(t, b)
		} else {
			wantPoint(t, b, of(1, 2, 3, upTo("a", "\x00"), api.Work{Table: "t", Done: i == 1}))
		}
	}
}

// P11.3: keys that are none, and those that one that is done has.
func TestReadKeys(t *testing.T) {
	head := []byte("\x00\x00\x00\x01\x01t")
	for _, k := range keys(t) {
		wantPoint(t, lay.Text(append(head[:6:6], 0), k), of(0, 0, 0, upTo("t", k)))
		wantForm(t, lay.Text(append(head[:6:6], 1), k))
	}
	for _, k := range wrongKeys() {
		wantForm(t, lay.Text(append(head[:6:6], 0), k))
		wantForm(t, lay.Text(append(head[:6:6], 1), k))
	}
}

// P11.3: each byte of a point's bytes, changed: no point's, or the bytes of just
// the point that is told.
func TestReadChanged(t *testing.T) {
	b := plain(of(300, 5, 128, done("a"), upTo("bc", "\x03a\x00\x01"+id(1)), begun("d"), upTo("e", "\x01\x01")))
	for i := range b {
		for c := range 256 {
			other := slices.Clone(b)
			other[i] = byte(c)
			wantJust(t, other)
		}
	}
}

// wantJust checks that bytes are no point's, or just those of the point that is
// told.
func wantJust(t *testing.T, b []byte) bool {
	t.Helper()
	p, e := chunk.Read(b)
	if e == api.ErrForm {
		wantForm(t, b)
		return false
	}
	again, errno := chunk.Write(p)
	if e != api.OK || errno != api.OK || !bytes.Equal(again, b) || !bytes.Equal(plain(p), b) {
		t.Fatalf("Read of %q: %s%v, with the bytes %q", b, sign(p.Works), e, again)
	}
	return true
}

// P11.3: all bytes made of some few behind the numbers, behind a whole work of
// two, and behind the beginning of one: no point's, or the bytes of just the point
// that is told.
func TestReadAll(t *testing.T) {
	signs := []byte{0, 1, 2, 3, 9, 128, 'a', 'b'}
	seen := map[string]int{}
	many := 0
	var try func(b []byte, left int)
	try = func(b []byte, left int) {
		if wantJust(t, b) {
			many++
			seen[string(b)]++
		}
		if left == 0 {
			return
		}
		for _, c := range signs {
			try(append(b[:len(b):len(b)], c), left-1)
		}
	}
	try([]byte("\x00\x00\x00"), 6)
	try([]byte("\x00\x00\x00\x02\x01a\x00\x00"), 5)
	try([]byte("\x00\x00\x00\x01\x01a\x00"), 5)
	for _, s := range []string{"\x00\x00\x00\x00", "\x00\x00\x00\x01\x01a\x00\x00", "\x00\x00\x00\x01\x02ab\x01\x00", "\x00\x00\x00\x02\x01a\x00\x00\x01b\x01\x00", "\x00\x00\x00\x01\x01a\x00\x02\x01\x01"} {
		if seen[s] == 0 {
			t.Errorf("%q is no point's", s)
		}
	}
	if many < 20 {
		t.Errorf("just %d points", many)
	}
}

// P11.3: all is the same, or something is not.
func TestSame(t *testing.T) {
	l := []api.Point{
		of(0, 0, 0), of(1, 0, 0), of(0, 1, 0), of(0, 0, 1), of(-1, 0, 0), of(0, 0, 0, begun("a")), of(0, 0, 0, done("a")), of(0, 0, 0, upTo("a", id(1))), of(0, 0, 0, upTo("a", id(2))),
		of(0, 0, 0, begun("b")), of(0, 0, 0, begun("a"), begun("b")), of(0, 0, 0, begun("b"), begun("a")), of(0, 0, 0, begun("a"), done("b")), of(1, 2, 3, begun("a")), of(0, 0, 0, api.Work{}),
		of(3, 2, 1, begun("a")), of(0, 0, 0, api.Work{Table: "a", Done: true, Key: id(1)}), of(0, 0, 0, begun("a"), begun("a")),
	}
	for i, a := range l {
		for j, b := range l {
			b.Works = slices.Clone(b.Works)
			if chunk.Same(a, b) != (i == j) || equal(a, b) != (i == j) {
				t.Errorf("Same of %d and %d: %t", i, j, i != j)
			}
		}
	}
	if !chunk.Same(api.Point{}, api.Point{Works: []api.Work{}}) || !chunk.Same(api.Point{Works: []api.Work{}}, api.Point{}) {
		t.Error("no works, and none")
	}
}

// What is handed in stays as it is, its spare room too, and what was told hangs
// on it no more.
func TestPointOwn(t *testing.T) {
	works := []api.Work{begun("a"), upTo("b", id(1)), done("spare")}
	p := of(1, 2, 3, works[:2]...)
	first, _ := chunk.Write(p)
	second, _ := chunk.Write(p)
	clear(first)
	if !bytes.Equal(second, plain(p)) || !slices.Equal(works, []api.Work{begun("a"), upTo("b", id(1)), done("spare")}) {
		t.Error("Write changed something")
	}
	b := append(bytes.Clone(second), 7, 7, 7)
	got, e := chunk.Read(b[:len(second)])
	other, _ := chunk.Read(b[:len(second)])
	if e != api.OK || !bytes.Equal(b, append(bytes.Clone(second), 7, 7, 7)) {
		t.Error("Read changed something", e)
	}
	clear(b)
	clear(other.Works)
	if !equal(got, p) {
		t.Errorf("Read told %s", sign(got.Works))
	}
}

// A count far beyond what follows, and many works, come to their end at once.
func TestReadLong(t *testing.T) {
	const many = 100000
	var l []api.Work
	for i := range many {
		l = append(l, upTo(fmt.Sprintf("t%06d", i), id(i%256)))
	}
	p := of(1, 2, 3, l...)
	b, e := chunk.Write(p)
	if e != api.OK {
		t.Fatal(e)
	}
	wantPoint(t, b, p)
	wantForm(t, b[:len(b)-1])
	wantForm(t, slices.Concat([]byte("\x01\x02\x03"), lay.Number(nil, math.MaxInt64), b[6:]))
}
