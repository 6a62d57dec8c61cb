package image_test

import (
	"bytes"
	"fmt"
	"math"
	"slices"
	"strconv"
	"strings"
	"testing"

	"pantograph/api"
	"pantograph/image"
	"pantograph/lay"
	"pantograph/schema"
)

func null() api.Value         { return api.Value{} }
func flag(n int) api.Value    { return api.Value{Kind: api.Bool, Number: n} }
func whole(n int) api.Value   { return api.Value{Kind: api.Int, Number: n} }
func text(s string) api.Value { return api.Value{Kind: api.Text, Text: s} }
func blob(s string) api.Value { return api.Value{Kind: api.Bytes, Text: s} }

// must is a column that has no Null, may is one that may have it.
func must(name string, kind int) api.Column { return api.Column{Name: name, Kind: kind} }
func may(name string, kind int) api.Column {
	return api.Column{Name: name, Kind: kind, None: true}
}

func of(keys int, l ...api.Column) api.Schema { return api.Schema{Columns: l, Keys: keys} }

// pair is the chapter's example.
func pair() api.Schema { return of(1, must("id", api.Int), may("name", api.Text)) }

// people is an ordinary table: two columns of the key, one that has no Null,
// three that may have it.
func people() api.Schema {
	return of(2, must("land", api.Text), must("id", api.Int), must("old", api.Bool), may("name", api.Text), may("face", api.Bytes), may("dead", api.Bool))
}

// wide is as many columns, of which the first keys ones are the key and all
// others may have Null.
func wide(keys, many int) api.Schema {
	s := of(keys)
	for i := range many {
		s.Columns = append(s.Columns, api.Column{Name: "c" + strconv.Itoa(i), Kind: kinds()[i%4], None: i >= keys})
	}
	return s
}

// schemas is some that may be: ordinary ones, and all numbers of columns and
// of keys.
func schemas() []api.Schema {
	l := []api.Schema{
		pair(), people(), of(1, must("id", api.Int)),
		of(1, must("a", api.Bytes), must("b", api.Bytes), must("c", api.Text), must("d", api.Bool)),
	}
	for _, kind := range kinds() {
		l = append(l, of(1, must("k", kind), may("v", kind), must("w", kind)))
	}
	for many := 1; many <= api.MaxColumns; many++ {
		for keys := 1; keys <= min(many, api.MaxKeys); keys++ {
			l = append(l, wide(keys, many))
		}
	}
	return l
}

func kinds() []int { return []int{api.Bool, api.Int, api.Text, api.Bytes} }

// values is some values of a kind, edges among them.
func values(kind int) []api.Value {
	switch kind {
	case api.Bool:
		return []api.Value{flag(0), flag(1)}
	case api.Int:
		return []api.Value{whole(0), whole(-1), whole(63), whole(64), whole(-300), whole(math.MinInt64), whole(math.MaxInt64)}
	case api.Text:
		return []api.Value{text(""), text("ä\x00€"), text("a"), text(strings.Repeat("x", 128)), text(strings.Repeat("x", api.MaxText))}
	}
	return []api.Value{blob(""), blob("\xff\x00\x01"), blob(strings.Repeat("\xff", 127)), blob(strings.Repeat("\x80", api.MaxText))}
}

// rows is some rows that fit a schema, with Null in none, in some and in all of
// the columns that may have it.
func rows(s api.Schema) []api.Row {
	var l []api.Row
	for i := range 8 {
		var row api.Row
		for j, c := range s.Columns {
			own := values(c.Kind)
			v := own[(i+j)%len(own)]
			if c.None && (i == 1 || i > 1 && (i+j*j)%3 == 0) {
				v = null()
			}
			row = append(row, v)
		}
		l = append(l, row)
	}
	return l
}

// plain is a row's bytes as the chapter's words say them.
func plain(row api.Row) []byte {
	var b []byte
	for i := 0; i < len(row); i += 8 {
		eight, bit := 0, 1
		for _, v := range row[i:min(i+8, len(row))] {
			if v.Kind == api.Null {
				eight += bit
			}
			bit *= 2
		}
		b = append(b, byte(eight))
	}
	for _, v := range row {
		switch v.Kind {
		case api.Bool:
			b = append(b, byte(v.Number))
		case api.Int:
			b = lay.Signed(b, v.Number)
		case api.Text, api.Bytes:
			b = lay.Text(b, v.Text)
		}
	}
	return b
}

// brief is the beginning of a thing, to be printed.
func brief(x any) string {
	s := fmt.Sprintf("%q", x)
	return s[:min(len(s), 200)]
}

// call is a pair of calls that write and read: those of rows, or of keys.
type call struct {
	name  string
	write func(b []byte, s api.Schema, row api.Row) []byte
	read  func(r *lay.Reader, s api.Schema) (api.Row, bool)
}

func ofRows() call { return call{"row", image.Write, image.Read} }
func ofKeys() call { return call{"key", image.WriteKey, image.ReadKey} }
func both() []call { return []call{ofRows(), ofKeys()} }

// own is what of a row c writes and reads.
func (c call) own(s api.Schema, row api.Row) api.Row {
	if c.name == "key" {
		return row[:s.Keys]
	}
	return row
}

// wantRow checks that c reads row of b, and goes on just ahead of the last left
// bytes.
func wantRow(t *testing.T, c call, s api.Schema, b []byte, row api.Row, left int) {
	t.Helper()
	r := lay.Read(b)
	got, ok := c.read(r, s)
	if !ok || !slices.Equal(got, row) || r.Left() != left || r.Errno() != api.OK {
		t.Fatalf("the %s of %v in %.60q: %s, %t; left %d, error %d; not %s, left %d", c.name, s, b, brief(got), ok, r.Left(), r.Errno(), brief(row), left)
	}
}

// wantNone checks that c reads nothing of b, whatever stands behind it, but not
// at the beginning either.
func wantNone(t *testing.T, c call, s api.Schema, b []byte) {
	t.Helper()
	r := lay.Read(slices.Concat([]byte{7}, b))
	r.Byte()
	if got, ok := c.read(r, s); ok || got != nil {
		t.Fatalf("the %s of %v in %.60q: %s, %t", c.name, s, b, brief(got), ok)
	}
}

// P5.1: some rows, byte by byte.
func TestWrite(t *testing.T) {
	full := strings.Repeat("x", api.MaxText)
	for _, c := range []struct {
		s    api.Schema
		row  api.Row
		want string
	}{
		{pair(), api.Row{whole(1), null()}, "\x02\x02"},
		{pair(), api.Row{whole(1), text("")}, "\x00\x02\x00"},
		{pair(), api.Row{whole(-3), text("hi")}, "\x00\x05\x02hi"},
		{pair(), api.Row{whole(150), text("ä")}, "\x00\xac\x02\x02ä"},
		{pair(), api.Row{whole(0), text(full)}, "\x00\x00\x80\x20" + full},
		{people(), api.Row{text("ch"), whole(7), flag(1), text("Ada"), blob("\xff\x00"), flag(0)}, "\x00\x02ch\x0e\x01\x03Ada\x02\xff\x00\x00"},
		{people(), api.Row{text("ch"), whole(7), flag(0), null(), blob(""), null()}, "\x28\x02ch\x0e\x00\x00"},
		{people(), api.Row{text(""), whole(math.MinInt64), flag(1), null(), null(), null()}, "\x38\x00\xff\xff\xff\xff\xff\xff\xff\xff\xff\x01\x01"},
		{people(), api.Row{text("\x00"), whole(-1), flag(0), text("b"), null(), flag(1)}, "\x10\x01\x00\x01\x00\x01b\x01"},
		{wide(1, 8), api.Row{flag(1), null(), null(), null(), null(), null(), null(), null()}, "\xfe\x01"},
		{wide(1, 9), api.Row{flag(1), null(), null(), null(), null(), null(), null(), null(), null()}, "\xfe\x01\x01"},
		{wide(1, 9), api.Row{flag(0), whole(1), null(), null(), null(), null(), null(), null(), flag(1)}, "\xfc\x00\x00\x02\x01"},
		{wide(4, 9), api.Row{flag(0), whole(1), text("c"), blob("d"), flag(1), whole(2), text("g"), blob("h"), null()}, "\x00\x01\x00\x02\x01c\x01d\x01\x04\x01g\x01h"},
		{wide(1, 16), append(api.Row{flag(1)}, slices.Repeat(api.Row{null()}, 15)...), "\xfe\xff\x01"},
		{wide(1, 16), append(append(api.Row{flag(0)}, slices.Repeat(api.Row{null()}, 14)...), blob("z")), "\xfe\x7f\x00\x01z"},
	} {
		if !schema.May(c.s) || !schema.Fits(c.s, c.row) {
			t.Fatalf("%s does not fit %v", brief(c.row), c.s)
		}
		if b := image.Write(nil, c.s, c.row); string(b) != c.want {
			t.Errorf("Write of %s: %.40q, not %.40q", brief(c.row), b, c.want)
		}
		wantRow(t, ofRows(), c.s, []byte(c.want), c.row, 0)
	}
}

// P5.1: some keys, byte by byte: what stands behind the key's values is not
// written, be it there or not, be it right or wrong.
func TestWriteKey(t *testing.T) {
	for _, c := range []struct {
		s    api.Schema
		key  api.Row
		want string
	}{
		{pair(), api.Row{whole(1)}, "\x00\x02"},
		{people(), api.Row{text("ch"), whole(7)}, "\x00\x02ch\x0e"},
		{people(), api.Row{text(""), whole(-3)}, "\x00\x00\x05"},
		{wide(1, 16), api.Row{flag(1)}, "\x00\x01"},
		{wide(3, 16), api.Row{flag(0), whole(-1), text("ä")}, "\x00\x00\x01\x02ä"},
		{wide(4, 9), api.Row{flag(0), whole(1), text(""), blob("\xff")}, "\x00\x00\x02\x00\x01\xff"},
		{wide(4, 4), api.Row{flag(1), whole(64), text("t"), blob("")}, "\x00\x01\x80\x01\x01t\x00"},
	} {
		for _, behind := range []api.Row{nil, {null()}, {flag(1)}, {text("\xff"), whole(9)}, slices.Repeat(api.Row{null()}, 20), {{Kind: 77}, {Number: 5}}} {
			row := slices.Concat(c.key, behind)
			if b := image.WriteKey(nil, c.s, row); string(b) != c.want {
				t.Errorf("WriteKey of %s: %q, not %q", brief(row), b, c.want)
			}
		}
		wantRow(t, ofKeys(), c.s, []byte(c.want), c.key, 0)
	}
}

// P5.1: all schemas' rows and keys, as the words say them, behind other bytes.
func TestWriteBehind(t *testing.T) {
	for _, s := range schemas() {
		if !schema.May(s) {
			t.Fatal(s)
		}
		for _, row := range rows(s) {
			if !schema.Fits(s, row) {
				t.Fatalf("%s does not fit %v", brief(row), s)
			}
			for _, c := range both() {
				for _, b := range [][]byte{nil, {}, {9}, {128, 0, 255}, bytes.Repeat([]byte{7}, 100)} {
					if got := c.write(b, s, row); !bytes.Equal(got, slices.Concat(b, plain(c.own(s, row)))) {
						t.Fatalf("the %s of %s behind %v: %.60q", c.name, brief(row), b, got)
					}
				}
			}
		}
	}
}

// P5.2, P5.3: what is written is read as it was, whatever stands behind it.
func TestReadBack(t *testing.T) {
	for _, s := range schemas() {
		for _, row := range rows(s) {
			for _, c := range both() {
				b := c.write(nil, s, row)
				for _, tail := range []string{"", "\x00", "\x01", "\xff", "\x80\x80\x80", "abc", strings.Repeat("\x00", 20), strings.Repeat("\xff", 20), string(b)} {
					wantRow(t, c, s, append(b[:len(b):len(b)], tail...), c.own(s, row), len(tail))
				}
			}
		}
	}
}

// P5.2, P5.3: rows and keys of several tables, side by side, are read one
// behind the other.
func TestReadSideBySide(t *testing.T) {
	var b []byte
	for _, s := range schemas() {
		for _, row := range rows(s)[:3] {
			b = image.WriteKey(image.Write(b, s, row), s, row)
		}
	}
	r := lay.Read(b)
	for _, s := range schemas() {
		for _, row := range rows(s)[:3] {
			for _, c := range both() {
				if got, ok := c.read(r, s); !ok || !slices.Equal(got, c.own(s, row)) {
					t.Fatalf("the %s of %v: %s, %t, not %s", c.name, s, brief(got), ok, brief(row))
				}
			}
		}
	}
	if r.End() != api.OK {
		t.Error(r.Left(), r.End())
	}
}

// P5.2: bytes that are cut off anywhere are nothing's.
func TestReadCut(t *testing.T) {
	for _, s := range schemas() {
		for _, row := range rows(s) {
			for _, c := range both() {
				b := c.write(nil, s, row)
				for cut := 0; cut < len(b); cut += 1 + cut/20 {
					wantNone(t, c, s, b[:cut])
				}
				wantNone(t, c, s, b[:len(b)-1])
			}
		}
	}
}

// P5.2: of each bit ahead of the values: Null stands there, if the column may
// have it; else there is no row, nor if the bit is no column's.
func TestReadBits(t *testing.T) {
	for _, s := range schemas() {
		row := rows(s)[0]
		for _, c := range both() {
			own := c.own(s, row)
			for i := range (len(own) + 7) / 8 * 8 {
				other := slices.Clone(own)
				if i < len(own) {
					other[i] = null()
				}
				b := plain(other)
				b[i/8] |= 1 << (i % 8)
				if i < len(own) && s.Columns[i].None {
					wantRow(t, c, s, b, other, 0)
				} else {
					wantNone(t, c, s, b)
					// The value is there too.
					b = plain(own)
					b[i/8] |= 1 << (i % 8)
					wantNone(t, c, s, b)
				}
			}
		}
	}
}

// P5.2: a key's bits are those of its columns alone, though others have more.
func TestReadKeyBits(t *testing.T) {
	for keys := 1; keys <= api.MaxKeys; keys++ {
		s := wide(keys, api.MaxColumns)
		b := plain(rows(s)[0][:keys])
		for eight := 1; eight < 256; eight++ {
			b[0] = byte(eight)
			wantNone(t, ofKeys(), s, b)
		}
		wantNone(t, ofKeys(), s, append([]byte{0}, b...)[:2])
	}
}

// P5.2: each byte of a Bool: 0 and 1 alone are one.
func TestReadBool(t *testing.T) {
	s := of(1, must("k", api.Bool), may("v", api.Bool))
	for i := range 256 {
		key, value := []byte{0, byte(i)}, []byte{0, 1, byte(i)}
		if i > 1 {
			wantNone(t, ofKeys(), s, key)
			wantNone(t, ofRows(), s, append(key, 1))
			wantNone(t, ofRows(), s, value)
			continue
		}
		wantRow(t, ofKeys(), s, key, api.Row{flag(i)}, 0)
		wantRow(t, ofRows(), s, append(key, 1), api.Row{flag(i), flag(1)}, 0)
		wantRow(t, ofRows(), s, value, api.Row{flag(1), flag(i)}, 0)
	}
}

// P5.2: values that are not of their form, or may not be, in a key and behind
// it.
func TestReadWrongValues(t *testing.T) {
	over := string(lay.Number(nil, api.MaxText+1)) + strings.Repeat("x", api.MaxText+1)
	for _, c := range []struct {
		kind int
		own  string
	}{
		{api.Int, "\x80\x00"},
		{api.Int, "\x82\x80\x00"},
		{api.Int, strings.Repeat("\x80", 10) + "\x01"},
		{api.Int, strings.Repeat("\xff", 9) + "\x02"},
		{api.Text, "\x80\x00"},
		{api.Text, "\x81\x00a"},
		{api.Text, "\x01\xff"},
		{api.Text, "\x02\xc3("},
		{api.Text, "\x01\xc3\xa4"},
		{api.Text, "\x03\xed\xa0\x80"},
		{api.Text, "\x02\xc0\x80"},
		{api.Text, over},
		{api.Text, strings.Repeat("\xff", 8) + "\x7f"},
		{api.Bytes, "\x80\x00"},
		{api.Bytes, "\x81\x00a"},
		{api.Bytes, over},
		{api.Bytes, strings.Repeat("\xff", 9) + "\x01"},
	} {
		for _, tail := range []string{"", "\x00", "\x00\x00\x00\x00", "\x01\x01\x01\x01", strings.Repeat("\x00", 9000)} {
			s := of(1, must("k", c.kind), may("v", api.Bytes))
			wantNone(t, ofRows(), s, []byte("\x00"+c.own+tail))
			wantNone(t, ofRows(), s, []byte("\x02"+c.own+tail))
			wantNone(t, ofKeys(), s, []byte("\x00"+c.own+tail))
			s = of(1, must("k", api.Int), may("v", c.kind), may("w", api.Int))
			wantNone(t, ofRows(), s, []byte("\x00\x02"+c.own+tail))
			wantNone(t, ofRows(), s, []byte("\x04\x02"+c.own+tail))
		}
	}
}

// P5.2: a text is one by its bytes, UTF-8 or not, where the column has Bytes.
func TestReadBytes(t *testing.T) {
	s := of(1, must("k", api.Bytes))
	for i := range 256 {
		own := string([]byte{byte(i)})
		b := []byte("\x00\x01" + own)
		wantRow(t, ofRows(), s, b, api.Row{blob(own)}, 0)
		wantRow(t, ofKeys(), s, b, api.Row{blob(own)}, 0)
		if i < 128 {
			wantRow(t, ofRows(), of(1, must("k", api.Text)), b, api.Row{text(own)}, 0)
		} else {
			wantNone(t, ofRows(), of(1, must("k", api.Text)), b)
		}
	}
}

// P5.2: a reader that tells an error already reads nothing more.
func TestReadBehindError(t *testing.T) {
	for _, s := range schemas() {
		for _, row := range rows(s)[:2] {
			for _, c := range both() {
				r := lay.Read(slices.Concat([]byte{128, 0}, c.write(nil, s, row)))
				r.Number()
				if got, ok := c.read(r, s); ok || got != nil || r.Errno() != api.ErrForm {
					t.Fatalf("the %s of %v behind an error: %s, %t, %d", c.name, s, brief(got), ok, r.Errno())
				}
			}
		}
	}
	// Bytes 0 would be a row here, which must not be told of what is not there.
	r := lay.Read([]byte{128, 0, 0, 0, 0})
	r.Number()
	if got, ok := image.Read(r, of(1, must("k", api.Int), may("v", api.Text))); ok || got != nil {
		t.Error(got, ok)
	}
}

// P5.2: of all bytes that are made of some few: what is read fits, and is
// written as just the bytes that were gone through.
func TestReadAll(t *testing.T) {
	some := []byte{0, 1, 2, 3, 4, 127, 128, 255}
	l := []api.Schema{pair(), people(), of(1, must("k", api.Bool), may("v", api.Bytes)), of(2, must("a", api.Text), must("b", api.Bool)), wide(1, 9)}
	read := map[bool]int{}
	var walk func(b []byte, deep int)
	walk = func(b []byte, deep int) {
		for _, s := range l {
			for _, c := range both() {
				r := lay.Read(b)
				row, ok := c.read(r, s)
				read[ok]++
				if !ok && row == nil {
					continue
				}
				gone := b[:len(b)-r.Left()]
				rest := rows(s)[0][len(row):]
				if !ok || !schema.Fits(s, slices.Concat(row, rest)) || !bytes.Equal(c.write(nil, s, row), gone) || r.Errno() != api.OK {
					t.Fatalf("the %s of %v in %v: %v, %t, left %d", c.name, s, b, row, ok, r.Left())
				}
			}
		}
		if deep == 0 {
			return
		}
		for _, c := range some {
			walk(append(b[:len(b):len(b)], c), deep-1)
		}
	}
	walk(nil, 5)
	if read[true] < 1000 || read[false] < 1000 {
		t.Error(read)
	}
}

// P5.1, R4: nothing that is handed in is changed, nor its spare room, and what
// is answered is new memory.
func TestWriteIsNew(t *testing.T) {
	for _, c := range both() {
		for _, s := range schemas() {
			for _, row := range rows(s)[:3] {
				room := bytes.Repeat([]byte{5}, 3+2*len(plain(row)))
				was, kept := bytes.Clone(room), slices.Clone(row)
				columns := slices.Clone(s.Columns)
				first, second := c.write(room[:3], s, row), c.write(room[:3], s, row)
				clear(first[:cap(first)])
				if !bytes.Equal(room, was) || !slices.Equal(row, kept) || !slices.Equal(s.Columns, columns) {
					t.Fatalf("the %s of %s: what was handed in is changed", c.name, brief(row))
				}
				if !bytes.Equal(second, slices.Concat(was[:3], plain(c.own(s, row)))) {
					t.Fatalf("the %s of %s: two answers share memory", c.name, brief(row))
				}
			}
		}
	}
}

// P5.2, R4: the like of Read: the columns stay as they are, and two rows share
// nothing.
func TestReadIsNew(t *testing.T) {
	for _, c := range both() {
		for _, s := range schemas() {
			row := rows(s)[0]
			b := c.write(nil, s, row)
			columns := slices.Clone(s.Columns)
			first, _ := c.read(lay.Read(b), s)
			second, _ := c.read(lay.Read(b), s)
			clear(first[:cap(first)])
			clear(b)
			if !slices.Equal(second, c.own(s, row)) || !slices.Equal(s.Columns, columns) {
				t.Fatalf("the %s of %v: memory is shared, or changed", c.name, s)
			}
		}
	}
}

// R1: no call panics, at schemas that may not be and rows that do not fit.
func TestNoPanic(t *testing.T) {
	odd := append(schemas(), api.Schema{}, of(3), of(-1, must("a", api.Int)), of(5, must("a", api.Int)), of(math.MaxInt64, must("a", api.Int)), of(math.MinInt64),
		of(1, may("a", api.Null), must("b", 77), must("c", -1)), of(2, must("a", 5)), wide(9, 40), wide(0, 3))
	list := []api.Row{nil, {}, {null()}, {whole(1)}, {whole(1), text("a")}, {{Kind: 77}, {Kind: -1}, {Number: 3}, {Kind: api.Bool, Number: -9}}, rows(people())[0], rows(wide(4, 16))[0]}
	for _, s := range odd {
		for _, row := range list {
			for _, c := range both() {
				b := c.write([]byte{1}, s, row)
				for _, bytes := range [][]byte{nil, {0}, {0, 0, 0}, {255, 255, 255}, b, b[1:]} {
					if got, ok := c.read(lay.Read(bytes), s); !ok && got != nil {
						t.Fatalf("the %s of %v in %.60q: %s, %t", c.name, s, bytes, brief(got), ok)
					}
				}
			}
		}
	}
}
