package lay_test

import (
	"bytes"
	"math"
	"strings"
	"testing"

	"pantograph/api"
	"pantograph/lay"
)

// full is n bytes, each of them c.
func full(n int, c byte) []byte { return bytes.Repeat([]byte{c}, n) }

// join is all of the parts, one behind the other.
func join(parts ...[]byte) []byte { return bytes.Join(parts, nil) }

// edges is the numbers from 0 on about which the bytes of numbers change their
// length or their digits.
func edges() []int {
	l := []int{0, 1, 2, 3, 300, 4096, math.MaxInt64, math.MaxInt64 - 1}
	for i := range 63 {
		n := 1 << i
		l = append(l, n-1, n, n+1, n+n/2, n/3)
	}
	return l
}

// P1.1: a number's bytes.
func TestNumber(t *testing.T) {
	for _, c := range []struct {
		n    int
		want []byte
	}{
		{0, []byte{0}},
		{1, []byte{1}},
		{127, []byte{127}},
		{128, []byte{128, 1}},
		{255, []byte{255, 1}},
		{256, []byte{128, 2}},
		{300, []byte{172, 2}},
		{16383, []byte{255, 127}},
		{16384, []byte{128, 128, 1}},
		{2097151, []byte{255, 255, 127}},
		{2097152, []byte{128, 128, 128, 1}},
		{1<<56 - 1, join(full(7, 255), []byte{127})},
		{1 << 56, join(full(8, 128), []byte{1})},
		{math.MaxInt64, join(full(8, 255), []byte{127})},
	} {
		if b := lay.Number(nil, c.n); !bytes.Equal(b, c.want) {
			t.Errorf("Number(nil, %d) = %v, not %v", c.n, b, c.want)
		}
	}
}

// P1.1: the digits, told by their sum.
func TestNumberDigits(t *testing.T) {
	for _, n := range edges() {
		b := lay.Number(nil, n)
		sum := 0
		for i, c := range b {
			sum += int(c%128) << (7 * i)
			if last := i == len(b)-1; last != (c < 128) {
				t.Errorf("Number(nil, %d) = %v: byte %d", n, b, i)
			}
		}
		if sum != n || len(b) > 1 && b[len(b)-1] == 0 {
			t.Errorf("Number(nil, %d) = %v", n, b)
		}
	}
}

// P1.1: a signed number's bytes.
func TestSigned(t *testing.T) {
	for _, c := range []struct {
		n    int
		want []byte
	}{
		{0, []byte{0}},
		{-1, []byte{1}},
		{1, []byte{2}},
		{-2, []byte{3}},
		{2, []byte{4}},
		{-3, []byte{5}},
		{63, []byte{126}},
		{-64, []byte{127}},
		{64, []byte{128, 1}},
		{-65, []byte{129, 1}},
		{150, []byte{172, 2}},
		{1<<62 - 1, join([]byte{254}, full(7, 255), []byte{127})},
		{-1 << 62, join(full(8, 255), []byte{127})},
		{1 << 62, join(full(9, 128), []byte{1})},
		{math.MaxInt64, join([]byte{254}, full(8, 255), []byte{1})},
		{math.MinInt64, join(full(9, 255), []byte{1})},
	} {
		if b := lay.Signed(nil, c.n); !bytes.Equal(b, c.want) {
			t.Errorf("Signed(nil, %d) = %v, not %v", c.n, b, c.want)
		}
	}
}

// P1.1: a text's bytes.
func TestText(t *testing.T) {
	for _, c := range []struct {
		s    string
		head []byte
	}{
		{"", []byte{0}},
		{"a", []byte{1}},
		{"hi", []byte{2}},
		{"\x00\xff\x80", []byte{3}},
		{"ä€", []byte{5}},
		{strings.Repeat("x", 127), []byte{127}},
		{strings.Repeat("y", 128), []byte{128, 1}},
		{strings.Repeat("z", 300), []byte{172, 2}},
		{strings.Repeat("\x80", 20000), []byte{160, 156, 1}},
	} {
		if b := lay.Text(nil, c.s); string(b) != string(c.head)+c.s {
			t.Errorf("Text(nil, %q) = %v", c.s, b)
		}
	}
}

// writers is a call of each kind that puts something behind bytes, and what
// that is.
var writers = []struct {
	name string
	call func([]byte) []byte
	own  []byte
}{
	{"Number", func(b []byte) []byte { return lay.Number(b, 300) }, []byte{172, 2}},
	{"Number of 0", func(b []byte) []byte { return lay.Number(b, 0) }, []byte{0}},
	{"Signed", func(b []byte) []byte { return lay.Signed(b, -3) }, []byte{5}},
	{"Text", func(b []byte) []byte { return lay.Text(b, "hi") }, []byte("\x02hi")},
	{"empty Text", func(b []byte) []byte { return lay.Text(b, "") }, []byte{0}},
}

// P1.1: the bytes stand behind b; nil and empty are one.
func TestBehind(t *testing.T) {
	for _, w := range writers {
		for _, b := range [][]byte{nil, {}, {9}, {128, 0, 255}, full(1000, 7)} {
			if got, want := w.call(b), join(b, w.own); !bytes.Equal(got, want) {
				t.Errorf("%s behind %v: %v, not %v", w.name, b, got, want)
			}
		}
	}
}

// P1.1, R4: neither b nor its spare room is changed, and what is answered is
// memory of its own.
func TestBehindIsNew(t *testing.T) {
	for _, w := range writers {
		for _, length := range []int{0, 1, 4} {
			room := []byte{1, 2, 3, 4, 5, 6, 7, 8, 9, 10, 11, 12, 13, 14, 15, 16}
			was := bytes.Clone(room)
			first := w.call(room[:length])
			second := w.call(room[:length])
			if !bytes.Equal(room, was) {
				t.Errorf("%s behind %d bytes changed what was handed in: %v", w.name, length, room)
			}
			clear(first[:cap(first)])
			if !bytes.Equal(room, was) || !bytes.Equal(second, join(was[:length], w.own)) {
				t.Errorf("%s behind %d bytes shares memory", w.name, length)
			}
		}
	}
}

// P1.2: what stands there, one behind the other, and what is left.
func TestRead(t *testing.T) {
	b := []byte{172, 2, 5, 255, 2, 'h', 'i', 0, 0, 0, 128, 1, 7}
	r := lay.Read(b)
	left := func(want int) {
		t.Helper()
		if r.Left() != want || r.Errno() != api.OK {
			t.Errorf("left %d, not %d; %v", r.Left(), want, r.Errno())
		}
	}
	left(13)
	if n := r.Number(); n != 300 {
		t.Error(n)
	}
	left(11)
	if n := r.Signed(); n != -3 {
		t.Error(n)
	}
	left(10)
	if n := r.Byte(); n != 255 {
		t.Error(n)
	}
	left(9)
	if s := r.Text(2); s != "hi" {
		t.Error(s)
	}
	left(6)
	if s := r.Text(0); s != "" {
		t.Error(s)
	}
	left(5)
	if n := r.Number(); n != 0 {
		t.Error(n)
	}
	left(4)
	if n := r.Byte(); n != 0 {
		t.Error(n)
	}
	left(3)
	if n := r.Signed(); n != 64 || r.End() != api.ErrForm {
		t.Error(n, r.End())
	}
	left(1)
	if n := r.Number(); n != 7 || r.End() != api.OK {
		t.Error(n, r.End())
	}
	left(0)
}

// P1.2: each of the 256 bytes.
func TestByte(t *testing.T) {
	for c := range 256 {
		r := lay.Read([]byte{byte(c), 9})
		if n := r.Byte(); n != c || r.Left() != 1 || r.Errno() != api.OK {
			t.Error(c, n, r.Left(), r.Errno())
		}
	}
}

// call is one of a reader's calls, and whether it told its zero value.
type call struct {
	name string
	zero func(r *lay.Reader) bool
}

func number() call {
	return call{"Number", func(r *lay.Reader) bool { return r.Number() == 0 }}
}

func signed() call {
	return call{"Signed", func(r *lay.Reader) bool { return r.Signed() == 0 }}
}

func text(most int) call {
	return call{"Text", func(r *lay.Reader) bool { return r.Text(most) == "" }}
}

func single() call {
	return call{"Byte", func(r *lay.Reader) bool { return r.Byte() == 0 }}
}

// refuse checks that c is told e by a reader of b, and that nothing goes on
// then, whatever is asked of it, and whatever stands there.
func refuse(t *testing.T, b []byte, c call, e api.Errno) {
	t.Helper()
	for _, ahead := range []int{0, 3} {
		r := lay.Read(join(full(ahead, 1), b))
		for range ahead {
			r.Byte()
		}
		for _, again := range []call{c, number(), signed(), single(), text(math.MaxInt64), text(-1), c} {
			if !again.zero(r) || r.Errno() != e || r.End() != e || r.Left() != len(b) {
				t.Errorf("%s of %v, then %s: Errno %d, End %d, Left %d; not %d",
					c.name, b, again.name, r.Errno(), r.End(), r.Left(), e)
			}
		}
	}
}

// P1.2: bytes that end too soon.
func TestErrEnd(t *testing.T) {
	refuse(t, nil, single(), api.ErrEnd)
	for _, c := range []call{number(), signed(), text(9), text(-1)} {
		for n := range 10 {
			refuse(t, full(n, 128), c, api.ErrEnd)
			refuse(t, full(n, 255), c, api.ErrEnd)
		}
	}
	refuse(t, []byte{1}, text(1), api.ErrEnd)
	refuse(t, []byte{3, 'a', 'b'}, text(3), api.ErrEnd)
	refuse(t, []byte{128, 1, 'a'}, text(4096), api.ErrEnd)
	refuse(t, lay.Number(nil, math.MaxInt64), text(math.MaxInt64), api.ErrEnd)
	refuse(t, join(lay.Number(nil, math.MaxInt64-8), full(100, 1)), text(math.MaxInt64), api.ErrEnd)
}

// P1.2: numbers with a byte 0 at their end, with too many bytes, or too great.
func TestErrForm(t *testing.T) {
	behind := [][]byte{nil, {0}, {1}, {128}, full(20, 128), full(20, 0)}
	for _, tail := range behind {
		for _, c := range []call{number(), signed(), text(math.MaxInt64), text(-1)} {
			for n := 1; n < 10; n++ {
				refuse(t, join(full(n, 128), []byte{0}, tail), c, api.ErrForm)
				refuse(t, join(full(n, 255), []byte{0}, tail), c, api.ErrForm)
			}
			for n := 10; n < 13; n++ {
				refuse(t, join(full(n, 128), tail), c, api.ErrForm)
				refuse(t, join(full(n, 255), []byte{1}, tail), c, api.ErrForm)
			}
			for _, last := range []byte{2, 3, 64, 127} {
				refuse(t, join(full(9, 128), []byte{last}, tail), c, api.ErrForm)
				refuse(t, join(full(9, 255), []byte{last}, tail), c, api.ErrForm)
			}
		}
		for _, c := range []call{number(), text(math.MaxInt64)} {
			refuse(t, join(full(9, 128), []byte{1}, tail), c, api.ErrForm)
			refuse(t, join(full(9, 255), []byte{1}, tail), c, api.ErrForm)
		}
	}
}

// P1.2: the greatest numbers that fit.
func TestGreatest(t *testing.T) {
	r := lay.Read(join(full(8, 255), []byte{127}, full(9, 255), []byte{1}, full(9, 128), []byte{1}, []byte{254}, full(8, 255), []byte{1}))
	if n := r.Number(); n != math.MaxInt64 {
		t.Error(n, r.Errno())
	}
	if n := r.Signed(); n != math.MinInt64 {
		t.Error(n, r.Errno())
	}
	if n := r.Signed(); n != 1<<62 {
		t.Error(n, r.Errno())
	}
	if n := r.Signed(); n != math.MaxInt64 || r.End() != api.OK {
		t.Error(n, r.Errno())
	}
}

// P1.2: a text that is longer than most, and that this is told ahead of ErrEnd.
func TestMost(t *testing.T) {
	for _, most := range []int{4, 5, 4096, math.MaxInt64} {
		r := lay.Read([]byte("\x04abcd"))
		if s := r.Text(most); s != "abcd" || r.End() != api.OK {
			t.Error(most, s, r.Errno())
		}
	}
	for _, most := range []int{3, 1, 0, -1, math.MinInt64} {
		refuse(t, []byte("\x04abcd"), text(most), api.ErrForm)
		refuse(t, []byte("\x04abc"), text(most), api.ErrForm)
		refuse(t, []byte{4}, text(most), api.ErrForm)
		refuse(t, lay.Number(nil, math.MaxInt64), text(most), api.ErrForm)
	}
	refuse(t, []byte{0}, text(-1), api.ErrForm)
	refuse(t, []byte{0, 0}, text(math.MinInt64), api.ErrForm)
	refuse(t, lay.Number(nil, math.MaxInt64), text(math.MaxInt64-1), api.ErrForm)
}

// P1.2: the first error stays, though another one would be told of what is
// there.
func TestFirstErrorStays(t *testing.T) {
	r := lay.Read([]byte{2, 'a'})
	if s := r.Text(1); s != "" || r.Errno() != api.ErrForm {
		t.Error(s, r.Errno())
	}
	if s := r.Text(2); s != "" || r.Errno() != api.ErrForm {
		t.Error(s, r.Errno())
	}
	r = lay.Read([]byte{2, 'a'})
	if s := r.Text(2); s != "" || r.Errno() != api.ErrEnd {
		t.Error(s, r.Errno())
	}
	if s := r.Text(1); s != "" || r.Errno() != api.ErrEnd {
		t.Error(s, r.Errno())
	}
	if n := r.Byte(); n != 0 || r.Errno() != api.ErrEnd || r.Left() != 2 {
		t.Error(n, r.Errno(), r.Left())
	}
}

// P1.2: End tells that bytes are left, but nothing goes wrong by it.
func TestEnd(t *testing.T) {
	for _, b := range [][]byte{nil, {}} {
		if r := lay.Read(b); r.End() != api.OK || r.Errno() != api.OK || r.Left() != 0 {
			t.Error(r.End(), r.Errno(), r.Left())
		}
	}
	r := lay.Read([]byte{7, 8})
	if r.End() != api.ErrForm || r.Errno() != api.OK || r.Left() != 2 {
		t.Error(r.End(), r.Errno(), r.Left())
	}
	if n := r.Byte(); n != 7 || r.End() != api.ErrForm {
		t.Error(n, r.End())
	}
	if n := r.Byte(); n != 8 || r.End() != api.OK {
		t.Error(n, r.End())
	}
	if n := r.Byte(); n != 0 || r.End() != api.ErrEnd || r.Errno() != api.ErrEnd {
		t.Error(n, r.End(), r.Errno())
	}
}

// P1.2, R4: a reader reads what it was handed, whatever becomes of that, and
// does not change it; two readers do not know of one another.
func TestReadKeepsItsOwn(t *testing.T) {
	b := []byte("\x05\x02hi\x09")
	was := bytes.Clone(b)
	r, other := lay.Read(b), lay.Read(b)
	if n, s := other.Byte(), other.Text(2); n != 5 || s != "hi" || !bytes.Equal(b, was) {
		t.Error(n, s, b)
	}
	clear(b)
	if n, s, last := r.Signed(), r.Text(9), other.Byte(); n != -3 || s != "hi" || last != 9 {
		t.Error(n, s, last)
	}
}

// P1.3: numbers, signed numbers and texts are read as they were, alone and
// side by side.
func TestRoundTrip(t *testing.T) {
	var all []byte
	for _, n := range edges() {
		if r := lay.Read(lay.Number(nil, n)); r.Number() != n || r.End() != api.OK {
			t.Error(n, r.End())
		}
		for _, m := range []int{n, -n, -n - 1} {
			if r := lay.Read(lay.Signed(nil, m)); r.Signed() != m || r.End() != api.OK {
				t.Error(m, r.End())
			}
		}
		s := strings.Repeat(string(rune('a'+n%26)), n%500)
		all = lay.Text(lay.Signed(lay.Number(all, n), -n-1), s)
	}
	r := lay.Read(all)
	for _, n := range edges() {
		if got := r.Number(); got != n {
			t.Fatal(got, n)
		}
		if got := r.Signed(); got != -n-1 {
			t.Fatal(got, -n-1)
		}
		if got := r.Text(n % 500); len(got) != n%500 || strings.Trim(got, string(rune('a'+n%26))) != "" {
			t.Fatal(got, n)
		}
	}
	if r.End() != api.OK {
		t.Error(r.End(), r.Left())
	}
}

// P1.3: texts of any bytes.
func TestTextRoundTrip(t *testing.T) {
	for _, s := range []string{"", "a", "\x00", "\xff\xfe", "ä€", strings.Repeat("\x80", 127), strings.Repeat("\x00", 128), strings.Repeat("long ", 20000)} {
		r := lay.Read(lay.Text([]byte{1}, s))
		if n, got := r.Byte(), r.Text(len(s)); n != 1 || got != s || r.End() != api.OK {
			t.Errorf("%q: %d, %q, %d", s, n, got, r.End())
		}
	}
}

// P1.2, P1.3: there is one way to write each number: what is read from any
// bytes is written as just those again; else an error is told.
func TestOneWay(t *testing.T) {
	some := []byte{0, 1, 2, 127, 128, 129, 255}
	var walk func(b []byte, deep int)
	walk = func(b []byte, deep int) {
		r := lay.Read(b)
		n := r.Number()
		if size := len(b) - r.Left(); r.Errno() == api.OK && !bytes.Equal(lay.Number(nil, n), b[:size]) {
			t.Errorf("Number of %v: %d", b, n)
		}
		r = lay.Read(b)
		n = r.Signed()
		if size := len(b) - r.Left(); r.Errno() == api.OK && !bytes.Equal(lay.Signed(nil, n), b[:size]) {
			t.Errorf("Signed of %v: %d", b, n)
		}
		if deep == 0 {
			return
		}
		for _, c := range some {
			walk(append(b[:len(b):len(b)], c), deep-1)
		}
	}
	for n := range 12 {
		walk(full(n, 128), 3)
		walk(full(n, 255), 3)
	}
	walk(nil, 5)
}
