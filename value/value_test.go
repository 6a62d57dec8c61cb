package value_test

import (
	"bytes"
	"math"
	"slices"
	"strconv"
	"strings"
	"testing"
	"unicode/utf8"

	"pantograph/api"
	"pantograph/lay"
	"pantograph/value"
)

func null() api.Value         { return api.Value{} }
func flag(n int) api.Value    { return api.Value{Kind: api.Bool, Number: n} }
func whole(n int) api.Value   { return api.Value{Kind: api.Int, Number: n} }
func text(s string) api.Value { return api.Value{Kind: api.Text, Text: s} }
func blob(s string) api.Value { return api.Value{Kind: api.Bytes, Text: s} }

// rising is values that may be, each one less than the next one: ordinary ones
// and the edges.
func rising() []api.Value {
	l := []api.Value{null(), flag(0), flag(1)}
	for _, n := range numbers() {
		l = append(l, whole(n))
	}
	for _, s := range []string{
		"", "\x00", "\x00\x00", "\x00\x00\x01", "\x00\x01", "\x00\x01a", "\x00\x02", "\x00a", "\x00\u00ff", "\x01", "\x01\x00", "\x01\x01", "'", "a",
		"a\x00", "a\x00\x00", "a\x00b", "a\x01", "a\x02b", "aa", "ab", "b", "z", "\x7f", "\u0080", "ä€", "ÿ", "€", "\U0010FFFF",
	} {
		l = append(l, text(s))
	}
	for _, s := range []string{
		"", "\x00", "\x00\x00", "\x00\x00\xff", "\x00\x01", "\x00\x01\xff", "\x00\xfe", "\x00\xff", "\x00\xff\x00", "\x00\xff\xff", "\x01", "\x01\x00", "a", "a\x00", "a\x00\x01", "a\x00\xff",
		"a\x01", "a\xff", "b", "\x80", "\xc3", "\xff", "\xff\x00", "\xff\x00\xff", "\xff\x01", "\xff\xff",
	} {
		l = append(l, blob(s))
	}
	return l
}

// numbers is numbers about which their bytes change, rising.
func numbers() []int {
	l := []int{0, 1, -1, 300, -300, math.MaxInt64, math.MinInt64}
	for i := range 63 {
		n := 1 << i
		l = append(l, n-1, n, n+1, -n-1, -n, 1-n, n+n/3)
	}
	slices.Sort(l)
	return slices.Compact(l)
}

// many is rising, and longer values.
func many() []api.Value {
	long := strings.Repeat("x", api.MaxText)
	return append(rising(), text(long), text(long[1:]), blob(long), text(strings.Repeat("\x00", api.MaxText)),
		blob(strings.Repeat("\xff", api.MaxText)), blob(strings.Repeat("\x00", api.MaxText)), text(strings.Repeat("ä", api.MaxText/2)), text(long[:127]), text(long[:128]))
}

// wrong is values that may not be.
func wrong() []api.Value {
	long := strings.Repeat("x", api.MaxText+1)
	l := []api.Value{
		{Kind: api.Null, Number: 1}, {Kind: api.Null, Number: -1}, {Kind: api.Null, Text: "a"}, {Kind: api.Null, Text: "\x00"},
		flag(2), flag(-1), flag(256), flag(math.MinInt64), flag(math.MaxInt64),
		{Kind: api.Bool, Text: "a"}, {Kind: api.Bool, Number: 1, Text: "\x00"},
		{Kind: api.Int, Text: "a"}, {Kind: api.Int, Number: 5, Text: "5"},
		{Kind: api.Text, Number: 1}, {Kind: api.Text, Number: -1, Text: "a"},
		{Kind: api.Bytes, Number: 1}, {Kind: api.Bytes, Number: math.MinInt64, Text: "a"},
		text(long), blob(long), text(strings.Repeat("ä", api.MaxText/2) + "a"), blob(long + long), text(strings.Repeat("x", 1<<20)),
	}
	for _, s := range noTexts() {
		l = append(l, text(s))
	}
	for _, kind := range []int{5, 6, -1, 255, 256, 258, math.MinInt64, math.MaxInt64, 1<<32 + 2} {
		l = append(l, api.Value{Kind: kind}, api.Value{Kind: kind, Number: 1}, api.Value{Kind: kind, Text: "a"})
	}
	return l
}

// noTexts is bytes that are not UTF-8.
func noTexts() []string {
	return []string{"\xff", "\x80", "a\xc3", "\xc0\x80", "\xc1\xbf", "\xe0\x80\x80", "\xed\xa0\x80", "\xed\xbf\xbf", "\xf4\x90\x80\x80", "\xf0\x80\x80\x80", "\xe2\x82", "\xe2\x82a", "ä\xa4", "\xfe"}
}

// tell is a value, of which long texts are cut.
func tell(v api.Value) string {
	s := v.Text
	if len(s) > 30 {
		s = s[:30] + "..."
	}
	return strconv.Itoa(v.Kind) + " " + strconv.Itoa(v.Number) + " " + strconv.Quote(s)
}

// P3.1: which values may be.
func TestMay(t *testing.T) {
	for _, v := range many() {
		if !value.May(v) {
			t.Error(tell(v), "may be")
		}
	}
	for _, v := range wrong() {
		if value.May(v) {
			t.Error(tell(v), "may not be")
		}
	}
}

// P3.1: the order of values that may be.
func TestCompare(t *testing.T) {
	l := rising()
	for i, a := range l {
		for j, b := range l {
			want := 0
			if i < j {
				want = -1
			} else if i > j {
				want = 1
			}
			if n := value.Compare(a, b); n != want {
				t.Fatalf("Compare(%s, %s) = %d, not %d", tell(a), tell(b), n, want)
			}
		}
	}
}

// P3.1: the order of any two: by Kind, then Number, then Text.
func TestCompareAny(t *testing.T) {
	var l []api.Value
	for _, kind := range []int{math.MinInt64, -1, 0, 1, 2, 3, 4, 5, math.MaxInt64} {
		for _, n := range []int{math.MinInt64, -2, 0, 1, 7, math.MaxInt64} {
			for _, s := range []string{"", "\x00", "a", "a\x00", "a\xff", "b", "\xff"} {
				l = append(l, api.Value{Kind: kind, Number: n, Text: s})
			}
		}
	}
	for i, a := range l {
		if n := value.Compare(a, a); n != 0 {
			t.Fatalf("Compare(%s, itself) = %d", tell(a), n)
		}
		for _, b := range l[i+1:] {
			if n, m := value.Compare(a, b), value.Compare(b, a); n != -1 || m != 1 {
				t.Fatalf("Compare(%s, %s) = %d, and turned %d", tell(a), tell(b), n, m)
			}
		}
	}
}

// known is values, and their key.
var known = []struct {
	l   []api.Value
	key string
}{
	{nil, ""},
	{[]api.Value{null()}, "\x00"},
	{[]api.Value{flag(0)}, "\x01\x00"},
	{[]api.Value{flag(1)}, "\x01\x01"},
	{[]api.Value{whole(1)}, "\x02\x80\x00\x00\x00\x00\x00\x00\x01"},
	{[]api.Value{whole(0)}, "\x02\x80\x00\x00\x00\x00\x00\x00\x00"},
	{[]api.Value{whole(-1)}, "\x02\x7f\xff\xff\xff\xff\xff\xff\xff"},
	{[]api.Value{whole(math.MinInt64)}, "\x02\x00\x00\x00\x00\x00\x00\x00\x00"},
	{[]api.Value{whole(math.MaxInt64)}, "\x02\xff\xff\xff\xff\xff\xff\xff\xff"},
	{[]api.Value{whole(0x0102030405060708)}, "\x02\x81\x02\x03\x04\x05\x06\x07\x08"},
	{[]api.Value{text("")}, "\x03\x00\x01"},
	{[]api.Value{text("abc")}, "\x03abc\x00\x01"},
	{[]api.Value{text("\x00")}, "\x03\x00\xff\x00\x01"},
	{[]api.Value{text("a\x00\x01b\x00")}, "\x03a\x00\xff\x01b\x00\xff\x00\x01"},
	{[]api.Value{text("ä")}, "\x03\xc3\xa4\x00\x01"},
	{[]api.Value{blob("")}, "\x04\x00\x01"},
	{[]api.Value{blob("\xff\x00\xff")}, "\x04\xff\x00\xff\xff\x00\x01"},
	{[]api.Value{blob("\x00\x01")}, "\x04\x00\xff\x01\x00\x01"},
	{[]api.Value{null(), null()}, "\x00\x00"},
	{[]api.Value{whole(1), text("a"), null(), flag(1), blob("\x00")}, "\x02\x80\x00\x00\x00\x00\x00\x00\x01\x03a\x00\x01\x00\x01\x01\x04\x00\xff\x00\x01"},
}

// P3.1: keys, byte by byte, and the values whose key they are.
func TestKey(t *testing.T) {
	for _, c := range known {
		if key, e := value.Key(c.l); key != c.key || e != api.OK {
			t.Errorf("Key(%v) = %q, %d; not %q", c.l, key, e, c.key)
		}
		if l, e := value.Values(c.key); !slices.Equal(l, c.l) || e != api.OK {
			t.Errorf("Values(%q) = %v, %d; not %v", c.key, l, e, c.l)
		}
	}
	if key, e := value.Key([]api.Value{}); key != "" || e != api.OK {
		t.Errorf("%q, %d", key, e)
	}
}

// P3.1: a value that may not be, wherever it stands.
func TestKeyErrArg(t *testing.T) {
	for _, v := range wrong() {
		for _, l := range [][]api.Value{{v}, {v, whole(1)}, {whole(1), v}, {null(), v, text("a")}, {v, v}} {
			if key, e := value.Key(l); key != "" || e != api.ErrArg {
				t.Errorf("Key with %s: %.30q, %d", tell(v), key, e)
			}
		}
	}
}

// P3.1: what a key tells is what it was made of, alone and side by side.
func TestValues(t *testing.T) {
	all := many()
	back := func(l ...api.Value) {
		t.Helper()
		key, e := value.Key(l)
		if e != api.OK {
			t.Fatalf("Key with %s: %d", tell(l[0]), e)
		}
		if got, e := value.Values(key); !slices.Equal(got, l) || e != api.OK {
			t.Fatalf("Values(%.60q): %d", key, e)
		}
	}
	for _, a := range all {
		back(a)
		for _, b := range all {
			back(a, b)
		}
	}
	back(all...)
}

// P3.1: texts that are no key.
func TestValuesErrForm(t *testing.T) {
	long := strings.Repeat("x", api.MaxText+1)
	l := []string{
		"\x05", "\x06\x00\x01", "\xff", "a", "\x00\x05", "\x05\x00",
		"\x01", "\x01\x02", "\x01\xff", "\x01\x80",
		"\x02", "\x02\x80\x00\x00\x00\x00\x00\x00",
		"\x03", "\x03\x00", "\x03a", "\x03a\x00", "\x03\x00\x02", "\x03a\x00\x00", "\x03a\x00\xfe\x00\x01", "\x03\x00\x00\x01", "\x03a\x00b\x00\x01", "\x03\x00\xff", "\x03\x00\xff\x01", "\x03\x00\xff\x00",
		"\x04", "\x04\x00", "\x04\xff", "\x04\xff\x00", "\x04\xff\x00\x00", "\x04\x00\xff",
		"\x03" + long + "\x00\x01", "\x04" + long + "\x00\x01", "\x04" + strings.Repeat("\x00\xff", api.MaxText+1) + "\x00\x01",
	}
	for _, s := range noTexts() {
		l = append(l, "\x03"+s+"\x00\x01")
	}
	for _, key := range l {
		for _, ahead := range []string{"", "\x00", "\x01\x01", "\x02\x80\x00\x00\x00\x00\x00\x00\x01", "\x03a\x00\x01"} {
			if got, e := value.Values(ahead + key); len(got) != 0 || e != api.ErrForm {
				t.Errorf("Values(%.60q) = %v, %d", ahead+key, got, e)
			}
		}
	}
}

// P3.1: of any bytes: either no key, or that of just what is told.
func TestValuesOneWay(t *testing.T) {
	some := []byte{0, 1, 2, 3, 4, 5, 128, 255}
	keys := 0
	var walk func(b []byte, deep int)
	walk = func(b []byte, deep int) {
		l, e := value.Values(string(b))
		key, again := value.Key(l)
		switch {
		case e == api.OK:
			keys++
			if key != string(b) || again != api.OK {
				t.Fatalf("Values(%q) = %v", b, l)
			}
		case e != api.ErrForm || len(l) != 0:
			t.Fatalf("Values(%q) = %v, %d", b, l, e)
		}
		if deep == 0 {
			return
		}
		for _, c := range some {
			walk(append(b[:len(b):len(b)], c), deep-1)
		}
	}
	walk(nil, 6)
	walk([]byte("\x02\x00\x00\x00\x00\x00\x00\x00"), 3)
	walk([]byte("\x03\x00\xff"), 4)
	if keys < 1000 {
		t.Error(keys)
	}
}

// P3.4: keys of as many values stand in the order of those, and none is the
// beginning of another one.
func TestKeysInOrder(t *testing.T) {
	l := rising()
	var lists [][]api.Value
	for _, v := range l {
		lists = append(lists, []api.Value{v})
	}
	inOrder(t, lists)
	lists = nil
	for _, v := range l {
		for _, w := range []api.Value{null(), flag(1), whole(-1), whole(1), text(""), text("\x00"), text("\x01"), blob("\xff")} {
			lists = append(lists, []api.Value{v, w})
		}
	}
	inOrder(t, lists)
	lists = nil
	for _, v := range []api.Value{null(), flag(1), text("a"), text("a\x00"), text("a\x00\x01"), text("a\x01")} {
		for _, w := range l {
			lists = append(lists, []api.Value{v, w, text("\x00")}, []api.Value{v, w, blob("")})
		}
	}
	inOrder(t, lists)
}

// inOrder checks the keys of lists, which rise and are of one length.
func inOrder(t *testing.T, lists [][]api.Value) {
	t.Helper()
	keys := make([]string, len(lists))
	for i, l := range lists {
		keys[i], _ = value.Key(l)
	}
	for i, a := range keys {
		for j, b := range keys[i+1:] {
			if a >= b || strings.HasPrefix(b, a) {
				t.Fatalf("the keys of %v and %v: %q, %q", lists[i], lists[i+1+j], a, b)
			}
		}
	}
}

// written is values, and their bytes.
var written = []struct {
	v    api.Value
	want string
}{
	{null(), "\x00"},
	{flag(0), "\x01\x00"},
	{flag(1), "\x01\x02"},
	{whole(0), "\x02\x00"},
	{whole(1), "\x02\x02"},
	{whole(-3), "\x02\x05"},
	{whole(150), "\x02\xac\x02"},
	{whole(math.MaxInt64), "\x02\xfe\xff\xff\xff\xff\xff\xff\xff\xff\x01"},
	{whole(math.MinInt64), "\x02\xff\xff\xff\xff\xff\xff\xff\xff\xff\x01"},
	{text(""), "\x03\x00"},
	{text("hi"), "\x03\x02hi"},
	{text("\x00ä"), "\x03\x03\x00\xc3\xa4"},
	{blob(""), "\x04\x00"},
	{blob("\x00\xff"), "\x04\x02\x00\xff"},
	{blob(strings.Repeat("\xfe", 300)), "\x04\xac\x02" + strings.Repeat("\xfe", 300)},
	{text(strings.Repeat("y", api.MaxText)), "\x03\x80\x20" + strings.Repeat("y", api.MaxText)},
}

// P3.2: values' bytes, behind others.
func TestWrite(t *testing.T) {
	for _, c := range written {
		for _, b := range [][]byte{nil, {}, {9}, bytes.Repeat([]byte{128}, 300)} {
			if got := value.Write(b, c.v); string(got) != string(b)+c.want {
				t.Errorf("Write of %s behind %d bytes: %.60q", tell(c.v), len(b), got)
			}
		}
	}
}

// P3.2, R4: neither b nor its spare room is changed, and what is answered is
// memory of its own.
func TestWriteIsNew(t *testing.T) {
	for _, c := range written {
		for _, length := range []int{0, 1, 4} {
			room := []byte("0123456789abcdefghijklmnopqrstuvwxyz")
			was := bytes.Clone(room)
			first, second := value.Write(room[:length], c.v), value.Write(room[:length], c.v)
			clear(first[:cap(first)])
			if !bytes.Equal(room, was) || string(second) != string(was[:length])+c.want {
				t.Errorf("Write of %s behind %d bytes shares memory, or changed what was handed in", tell(c.v), length)
			}
		}
	}
}

// P3.2: what is written is read as it was, whatever stands behind it, and the
// reader goes on there.
func TestRead(t *testing.T) {
	var all []byte
	for _, v := range many() {
		for _, behind := range []string{"", "\x00", "\xff\xff", "\x03\x05"} {
			r := lay.Read(append(value.Write(nil, v), behind...))
			if got, ok := value.Read(r); got != v || !ok || r.Left() != len(behind) || r.Errno() != api.OK {
				t.Errorf("%s: %s, %t, %d left, %d", tell(v), tell(got), ok, r.Left(), r.Errno())
			}
		}
		all = append(all, value.Write(nil, v)...)
	}
	r := lay.Read(all)
	for _, v := range many() {
		if got, ok := value.Read(r); got != v || !ok {
			t.Fatalf("%s: %s, %t", tell(v), tell(got), ok)
		}
	}
	if r.End() != api.OK {
		t.Error(r.End(), r.Left())
	}
}

// noValue checks that no value is read of b, that the reader tells e then, and
// that it has gone on behind as many bytes as size says.
func noValue(t *testing.T, b string, size int, e api.Errno) {
	t.Helper()
	for _, behind := range []string{"", "\x01\x02 and more"} {
		if e == api.ErrEnd {
			behind = ""
		}
		r := lay.Read([]byte("\x07" + b + behind))
		r.Byte()
		got, ok := value.Read(r)
		if (got != api.Value{}) || ok || r.Errno() != e || r.Left() != len(b)-size+len(behind) {
			t.Errorf("Read of %.40q: %s, %t, %d left, %d", b, tell(got), ok, r.Left(), r.Errno())
		}
	}
}

// P3.2: bytes of no kind: the reader goes on behind that byte alone.
func TestReadNoKind(t *testing.T) {
	for kind := 5; kind < 256; kind++ {
		noValue(t, string([]byte{byte(kind)}), 1, api.OK)
		noValue(t, string([]byte{byte(kind), 0}), 1, api.OK)
		noValue(t, string([]byte{byte(kind), 1, 'a'}), 1, api.OK)
	}
}

// P3.2: bytes of a value that may not be: the reader goes on behind all of it.
func TestReadMayNotBe(t *testing.T) {
	for _, n := range []int{2, -1, 3, -2, 255, 256, 257, math.MaxInt64, math.MinInt64, 1 << 32, 1<<32 + 1} {
		b := lay.Signed([]byte{api.Bool}, n)
		noValue(t, string(b), len(b), api.OK)
	}
	for _, s := range noTexts() {
		b := lay.Text([]byte{api.Text}, s)
		noValue(t, string(b), len(b), api.OK)
	}
	for _, size := range []int{api.MaxText + 1, api.MaxText + 2, 5000, 1 << 20} {
		for _, kind := range []byte{api.Text, api.Bytes} {
			b := lay.Text([]byte{kind}, strings.Repeat("x", size))
			noValue(t, string(b), len(b), api.OK)
		}
	}
}

// P3.2: bytes that r tells an error of: of numbers, and of texts.
func TestReadError(t *testing.T) {
	noValue(t, "", 0, api.ErrEnd)
	for _, kind := range []string{"\x01", "\x02", "\x03", "\x04"} {
		noValue(t, kind, 1, api.ErrEnd)
		noValue(t, kind+"\x80", 1, api.ErrEnd)
		noValue(t, kind+strings.Repeat("\xff", 9), 1, api.ErrEnd)
		noValue(t, kind+"\x80\x00", 1, api.ErrForm)
		noValue(t, kind+"\x82\x00", 1, api.ErrForm)
		noValue(t, kind+strings.Repeat("\xff", 10), 1, api.ErrForm)
		noValue(t, kind+strings.Repeat("\xff", 9)+"\x02", 1, api.ErrForm)
	}
	for _, kind := range []string{"\x03", "\x04"} {
		noValue(t, kind+"\x01", 1, api.ErrEnd)
		noValue(t, kind+"\x03ab", 1, api.ErrEnd)
		noValue(t, kind+"\x81\x20ab", 1, api.ErrEnd)
		noValue(t, kind+"\x81\x20"+strings.Repeat("x", api.MaxText), 1, api.ErrEnd)
		noValue(t, kind+strings.Repeat("\xff", 8)+"\x7f", 1, api.ErrEnd)
		noValue(t, kind+strings.Repeat("\xff", 9)+"\x01", 1, api.ErrForm)
	}
}

// P3.2: a reader that told an error already tells no value, whatever stands
// there, Null's byte neither.
func TestReadBehindError(t *testing.T) {
	for _, c := range written {
		r := lay.Read([]byte("\x80\x00" + c.want))
		r.Number()
		for range 2 {
			if got, ok := value.Read(r); (got != api.Value{}) || ok || r.Errno() != api.ErrForm || r.Left() != 2+len(c.want) {
				t.Errorf("%s: %s, %t, %d left, %d", tell(c.v), tell(got), ok, r.Left(), r.Errno())
			}
		}
	}
}

// P3.2: the reader goes on behind what was no value, so that the next one is
// read.
func TestReadGoesOn(t *testing.T) {
	b := []byte("\x05\x01\x04\x03\x01\xff\x02\x02\x09\x00")
	r := lay.Read(b)
	for i, want := range []api.Value{{}, {}, {}, whole(1), {}, null()} {
		got, ok := value.Read(r)
		if got != want || ok != (i == 3 || i == 5) {
			t.Error(i, tell(got), ok)
		}
	}
	if r.End() != api.OK {
		t.Error(r.End(), r.Left())
	}
}

// P3.2: of any bytes: either no value, or one that may be, and that is written
// as just those.
func TestReadOneWay(t *testing.T) {
	some := []byte{0, 1, 2, 3, 4, 5, 127, 128, 255}
	var walk func(b []byte, deep int)
	walk = func(b []byte, deep int) {
		r := lay.Read(b)
		v, ok := value.Read(r)
		if ok && (!value.May(v) || !bytes.Equal(value.Write(nil, v), b[:len(b)-r.Left()])) || !ok && (v != api.Value{}) {
			t.Fatalf("Read of %v: %s, %t", b, tell(v), ok)
		}
		if deep == 0 {
			return
		}
		for _, c := range some {
			walk(append(b[:len(b):len(b)], c), deep-1)
		}
	}
	walk(nil, 5)
}

// P3.3: values as texts.
func TestShow(t *testing.T) {
	for _, c := range []struct {
		v    api.Value
		want string
	}{
		{null(), "null"},
		{flag(0), "false"},
		{flag(1), "true"},
		{whole(0), "0"},
		{whole(7), "7"},
		{whole(-7), "-7"},
		{whole(1234567890), "1234567890"},
		{whole(math.MaxInt64), "9223372036854775807"},
		{whole(math.MinInt64), "-9223372036854775808"},
		{text(""), "''"},
		{blob(""), "''"},
		{text("abc XYZ 019"), "'abc XYZ 019'"},
		{text("null"), "'null'"},
		{text("it's"), `'it\27s'`},
		{text(`a\b`), `'a\5cb'`},
		{text(`\27`), `'\5c27'`},
		{text("\"`~ "), "'\"`~ '"},
		{text("\x00\t\n\r\x1f\x7f"), `'\00\09\0a\0d\1f\7f'`},
		{text("ä€"), `'\c3\a4\e2\82\ac'`},
		{blob("\x80\xab\xff"), `'\80\ab\ff'`},
		{blob("a"), "'a'"},
		{text(strings.Repeat("\x01", api.MaxText)), "'" + strings.Repeat(`\01`, api.MaxText) + "'"},
	} {
		if s := value.Show(c.v); s != c.want {
			t.Errorf("Show(%s) = %.60q, not %.60q", tell(c.v), s, c.want)
		}
	}
}

// P3.3: each of the 256 bytes.
func TestShowBytes(t *testing.T) {
	for i := range 256 {
		s := string([]byte{byte(i)})
		want := "'" + s + "'"
		if i < 32 || i > 126 || s == `\` || s == "'" {
			two := "0" + strconv.FormatInt(int64(i), 16)
			want = `'\` + two[len(two)-2:] + "'"
		}
		if got := value.Show(blob(s)); got != want {
			t.Errorf("Show of the byte %d: %q, not %q", i, got, want)
		}
		if got := value.Show(text(s)); utf8.ValidString(s) && got != want {
			t.Errorf("Show of the text of the byte %d: %q, not %q", i, got, want)
		}
	}
}

// R1: no call panics, though a value may not be.
func TestNothingPanics(t *testing.T) {
	for _, v := range wrong() {
		value.Compare(v, null())
		value.Write(nil, v)
		value.Show(v)
	}
}

// R4: Key changes nothing of what it is handed, and Values answers new memory.
func TestKeyAndValuesAreNew(t *testing.T) {
	room := []api.Value{whole(1), text("a\x00"), null(), flag(1)}
	was := slices.Clone(room)
	key, _ := value.Key(room[:3])
	first, _ := value.Values(key)
	second, _ := value.Values(key)
	clear(first[:cap(first)])
	if !slices.Equal(room, was) || !slices.Equal(second, was[:3]) {
		t.Error(room, second)
	}
}
