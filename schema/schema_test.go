package schema_test

import (
	"fmt"
	"math"
	"slices"
	"strconv"
	"strings"
	"testing"

	"pantograph/api"
	"pantograph/schema"
	"pantograph/value"
)

func null() api.Value         { return api.Value{} }
func flag(n int) api.Value    { return api.Value{Kind: api.Bool, Number: n} }
func whole(n int) api.Value   { return api.Value{Kind: api.Int, Number: n} }
func text(s string) api.Value { return api.Value{Kind: api.Text, Text: s} }
func blob(s string) api.Value { return api.Value{Kind: api.Bytes, Text: s} }

// must is a column that has no Null, may is one that may have it.
func must(name string, kind int) api.Column { return api.Column{Name: name, Kind: kind} }
func may(name string, kind int) api.Column {
	return api.Column{Name: name, Kind: kind, None: true}
}

func of(keys int, l ...api.Column) api.Schema { return api.Schema{Columns: l, Keys: keys} }

func change(kind int, c api.Column) api.Change { return api.Change{Kind: kind, Column: c} }

// many is as many columns that have no Null.
func many(n int) []api.Column {
	var l []api.Column
	for i := range n {
		l = append(l, must("c"+strconv.Itoa(i), 1+i%4))
	}
	return l
}

// people is an ordinary table: two columns of the key, one that has no Null,
// two that may have it.
func people() api.Schema {
	return of(2, must("land", api.Text), must("id", api.Int), must("old", api.Bool), may("name", api.Text), may("face", api.Bytes))
}

// schemas is some that may be: ordinary ones and the edges.
func schemas() []api.Schema {
	long := strings.Repeat("z", api.MaxName)
	l := []api.Schema{
		people(),
		of(1, must("id", api.Int), may("name", api.Text)),
		of(1, must(long, api.Bool)),
		of(1, must("a", api.Bytes), may("aa", api.Bytes), must("a_", api.Bytes), may("a0", api.Text)),
		of(4, must("a", api.Bool), must("b", api.Int), must("c", api.Text), must("d", api.Bytes)),
		of(4, must("a", api.Bytes), must("b", api.Bytes), must("c", api.Bytes), must("d", api.Bytes), may("e", api.Bool)),
		of(api.MaxKeys, many(api.MaxColumns)...),
		of(1, many(api.MaxColumns)...),
		of(3, many(api.MaxColumns-1)...),
		of(2, append(many(api.MaxColumns-1), may("last", api.Int))...),
		of(1, append(many(api.MaxColumns-2), may("last", api.Int))...),
	}
	for _, kind := range kinds() {
		l = append(l, of(1, must("k", kind), may("v", kind), must("w", kind)))
	}
	return l
}

// kinds is the kinds of columns; others is some that are not.
func kinds() []int { return []int{api.Bool, api.Int, api.Text, api.Bytes} }
func others() []int {
	return []int{api.Null, 5, -1, 6, 255, 256, 258, math.MinInt64, math.MaxInt64, 1<<32 + 2}
}

// values is some values of a kind, edges among them.
func values(kind int) []api.Value {
	switch kind {
	case api.Bool:
		return []api.Value{flag(0), flag(1)}
	case api.Int:
		return []api.Value{whole(0), whole(-1), whole(math.MinInt64), whole(math.MaxInt64)}
	case api.Text:
		return []api.Value{text(""), text("ä\x00"), text(strings.Repeat("x", api.MaxText))}
	}
	return []api.Value{blob(""), blob("\xff\x00\x01"), blob(strings.Repeat("\xff", api.MaxText))}
}

// rows is some rows that fit a schema.
func rows(s api.Schema) []api.Row {
	var l []api.Row
	for i := range 5 {
		var row api.Row
		for j, c := range s.Columns {
			own := values(c.Kind)
			v := own[(i+j)%len(own)]
			if c.None && (i+j)%2 == 0 {
				v = null()
			}
			row = append(row, v)
		}
		l = append(l, row)
	}
	return l
}

// wrongs is values that may not be.
func wrongs() []api.Value {
	long := strings.Repeat("x", api.MaxText+1)
	l := []api.Value{
		{Number: 1}, {Text: "a"}, flag(2), flag(-1), {Kind: api.Bool, Text: "a"}, {Kind: api.Int, Text: "a"},
		text("\xff"), text(long), {Kind: api.Text, Number: 1}, blob(long), {Kind: api.Bytes, Number: 1},
	}
	for _, kind := range others()[1:] {
		l = append(l, api.Value{Kind: kind})
	}
	return l
}

// brief is the beginning of a row, to be printed.
func brief(row api.Row) string {
	s := fmt.Sprint(row)
	return s[:min(len(s), 200)]
}

// spare is l in memory of its own that has room behind it, filled with c.
func spare[T any](l []T, c T) []T {
	room := make([]T, len(l)+3)
	copy(room, l)
	for i := len(l); i < len(room); i++ {
		room[i] = c
	}
	return room[:len(l)]
}

// P4.1: names.
func TestName(t *testing.T) {
	long := strings.Repeat("a", api.MaxName)
	for _, s := range []string{"a", "z", "id", "a0", "a_", "z9_", "a__", "orders_2026", long, long[1:], "z" + strings.Repeat("_", api.MaxName-1), "a" + strings.Repeat("9", api.MaxName-1)} {
		if !schema.Name(s) {
			t.Errorf("Name(%q) = false", s)
		}
	}
	for _, s := range []string{
		"", "_", "0", "9a", "_a", "A", "aB", "Id", " ", " a", "a ", "a b", "a-b", "a.b", "a\n", "\x00", "a\x00", "\x00a", "a'",
		"ä", "aä", "é", "\xff", "a\xff", "a\xc3", "a\uFFFD", "aａ", "ａ", "a１", "a\u0131", "\u017f", "a\u0661",
		long + "a", long + "_", long + " ", long + long, strings.Repeat("ä", api.MaxName/2), strings.Repeat("a", 1<<20), strings.Repeat("a", 256+1),
	} {
		if schema.Name(s) {
			t.Errorf("Name(%.40q) = true", s)
		}
	}
}

// P4.1: names of one, two and three bytes, whatever they are.
func TestNameBytes(t *testing.T) {
	const first = "abcdefghijklmnopqrstuvwxyz"
	const next = first + "0123456789_"
	for i := range 256 {
		s := string([]byte{byte(i)})
		in := strings.Contains(next, s)
		if got, want := schema.Name(s), strings.Contains(first, s); got != want {
			t.Errorf("Name(%q) = %v", s, got)
		}
		for _, name := range []string{"a" + s, "z" + s + "_", "q0" + s, strings.Repeat("x", api.MaxName-1) + s} {
			if got := schema.Name(name); got != in {
				t.Errorf("Name(%q) = %v", name, got)
			}
		}
	}
}

// P4.1: schemas that may be.
func TestMay(t *testing.T) {
	for i, s := range schemas() {
		if !schema.May(s) {
			t.Errorf("schema %d: May(%v) = false", i, s)
		}
	}
}

// P4.1: schemas that may not be, each for one thing alone.
func TestMayNot(t *testing.T) {
	for i, s := range []api.Schema{
		{}, {Keys: 1}, of(0, must("a", api.Int)), of(-1, must("a", api.Int)), of(2, must("a", api.Int)), of(math.MinInt64, must("a", api.Int)), of(math.MaxInt64, must("a", api.Int)),
		of(3, must("a", api.Int), must("b", api.Int)), of(5, must("a", api.Int), must("b", api.Int), must("c", api.Int), must("d", api.Int), must("e", api.Int)),
		of(api.MaxKeys+1, many(api.MaxColumns)...), of(api.MaxColumns, many(api.MaxColumns)...),
		of(1, many(api.MaxColumns+1)...), of(1, many(api.MaxColumns+30)...), of(0),
		of(1, may("a", api.Int)), of(2, must("a", api.Int), may("b", api.Int)), of(2, may("a", api.Int), must("b", api.Int)),
		of(4, must("a", api.Int), must("b", api.Int), must("c", api.Int), may("d", api.Int)),
		of(1, must("a", api.Int), must("a", api.Int)), of(1, must("a", api.Int), may("a", api.Text)), of(1, must("a", api.Int), must("b", api.Int), must("b", api.Text)),
		of(1, must("a", api.Int), must("b", api.Int), must("c", api.Int), must("a", api.Int)),
		of(1, append(many(api.MaxColumns-1), must("c0", api.Int))...), of(1, append(many(api.MaxColumns-1), must("c14", api.Int))...),
		of(1, must("", api.Int)), of(1, must("A", api.Int)), of(1, must("a", api.Int), must("", api.Int)), of(1, must("a", api.Int), may("1", api.Int)),
		of(1, must(strings.Repeat("a", api.MaxName+1), api.Int)), of(1, must("a", api.Int), must("b", api.Int), must("ä", api.Int)),
	} {
		if schema.May(s) {
			t.Errorf("schema %d: May(%v) = true", i, s)
		}
	}
	for _, kind := range others() {
		for i := range 3 {
			s := of(1, must("a", api.Int), must("b", api.Int), may("c", api.Int))
			s.Columns[i].Kind = kind
			if schema.May(s) {
				t.Errorf("May(%v) = true", s)
			}
		}
	}
}

// P4.1: rows that fit, and each of their values changed.
func TestFits(t *testing.T) {
	for _, s := range schemas() {
		for _, row := range rows(s) {
			if !schema.Fits(s, row) {
				t.Fatalf("Fits(%v, %s) = false", s, brief(row))
			}
			for i, c := range s.Columns {
				checkFits(t, s, row, i, c)
			}
		}
	}
}

// checkFits puts other values at the place i of a row that fits.
func checkFits(t *testing.T, s api.Schema, row api.Row, i int, c api.Column) {
	t.Helper()
	other := slices.Clone(row)
	for _, kind := range kinds() {
		for _, v := range values(kind) {
			other[i] = v
			if got := schema.Fits(s, other); got != (kind == c.Kind) {
				t.Fatalf("Fits(%v, %s) = %v", s, brief(other), got)
			}
		}
	}
	other[i] = null()
	if got := schema.Fits(s, other); got != c.None {
		t.Fatalf("Fits(%v, %s) = %v", s, brief(other), got)
	}
	for _, v := range wrongs() {
		other[i] = v
		if schema.Fits(s, other) {
			t.Fatalf("Fits(%v, %s) = true", s, brief(other))
		}
	}
}

// P4.1: rows that have too few or too many values fit nothing.
func TestFitsMany(t *testing.T) {
	for _, s := range schemas() {
		row := rows(s)[0]
		for n := range len(row) {
			if schema.Fits(s, row[:n]) {
				t.Errorf("Fits(%v, %s) = true", s, brief(row[:n]))
			}
		}
		for _, v := range []api.Value{null(), whole(1), text("")} {
			if more := append(slices.Clone(row), v); schema.Fits(s, more) {
				t.Errorf("Fits(%v, %s) = true", s, brief(more))
			}
		}
		if schema.Fits(s, nil) || schema.Fits(s, api.Row{}) {
			t.Errorf("Fits(%v, nil) = true", s)
		}
	}
}

// P4.1: the place of a column.
func TestFind(t *testing.T) {
	for _, s := range schemas() {
		for i, c := range s.Columns {
			if got := schema.Find(s, c.Name); got != i {
				t.Errorf("Find(%v, %q) = %d", s, c.Name, got)
			}
		}
		for _, name := range []string{"", "nobody", "A", "i", "ID", "id ", "\xff"} {
			if got := schema.Find(s, name); got != -1 {
				t.Errorf("Find(%v, %q) = %d", s, name, got)
			}
		}
	}
	twice := of(1, must("a", api.Int), must("b", api.Int), may("b", api.Text), must("a", api.Bool), must("", api.Int))
	if a, b, none := schema.Find(twice, "a"), schema.Find(twice, "b"), schema.Find(twice, ""); a != 0 || b != 1 || none != 4 {
		t.Errorf("Find among names that are there twice: %d, %d, %d", a, b, none)
	}
	if got := schema.Find(api.Schema{}, ""); got != -1 {
		t.Errorf("Find in no columns = %d", got)
	}
}

// P4.1: schemas are the same, if all is.
func TestSame(t *testing.T) {
	l := schemas()
	for i, a := range l {
		for j, b := range l {
			if got := schema.Same(a, b); got != (i == j) {
				t.Errorf("Same(%v, %v) = %v", a, b, got)
			}
		}
		for j, b := range unlike(a) {
			if schema.Same(a, b) || schema.Same(b, a) {
				t.Errorf("other %d: Same(%v, %v) = true", j, a, b)
			}
		}
	}
	if !schema.Same(api.Schema{}, of(0)) || !schema.Same(api.Schema{Columns: []api.Column{}}, api.Schema{}) {
		t.Error("nil columns and no columns are not the same")
	}
}

// unlike is schemas that have one thing else than s.
func unlike(s api.Schema) []api.Schema {
	var l []api.Schema
	for i, c := range s.Columns {
		named, kind, none := c, c, c
		named.Name += "x"
		kind.Kind = 1 + kind.Kind%4
		none.None = !none.None
		for _, one := range []api.Column{named, kind, none} {
			other := slices.Clone(s.Columns)
			other[i] = one
			l = append(l, of(s.Keys, other...))
		}
		l = append(l, of(s.Keys, slices.Delete(slices.Clone(s.Columns), i, i+1)...))
	}
	if n := len(s.Columns); n > 1 {
		turned := slices.Clone(s.Columns)
		turned[0], turned[n-1] = turned[n-1], turned[0]
		l = append(l, of(s.Keys, turned...))
	}
	return append(l, of(s.Keys+1, s.Columns...), of(s.Keys-1, s.Columns...), api.Schema{Keys: s.Keys}, of(s.Keys, append(slices.Clone(s.Columns), may("more", api.Int))...))
}

// P4.1: a clone is the same, in memory of its own (R4).
func TestClone(t *testing.T) {
	for _, s := range append(schemas(), api.Schema{}, of(-3), of(7, must("", 9), must("", 9))) {
		s.Columns = spare(s.Columns, may("room", api.Int))
		kept := of(s.Keys, slices.Clone(s.Columns)...)
		got := schema.Clone(s)
		if !schema.Same(got, s) || got.Keys != s.Keys || !slices.Equal(got.Columns, s.Columns) {
			t.Errorf("Clone(%v) = %v", s, got)
		}
		for i := range got.Columns {
			got.Columns[i] = must("other", api.Bool)
		}
		_ = append(got.Columns, must("behind", api.Bool))
		if !schema.Same(s, kept) || s.Columns[:len(s.Columns)+1][len(s.Columns)] != may("room", api.Int) {
			t.Errorf("a clone of %v shares its memory", kept)
		}
	}
}

// P4.2: a row's key is the key of its first values, and its part is these.
func TestKeyAndPart(t *testing.T) {
	for _, s := range schemas() {
		for _, row := range rows(s) {
			want, e := value.Key(row[:s.Keys])
			if e != api.OK {
				t.Fatal(e)
			}
			checkKey(t, s, row, want)
			checkKey(t, s, row[:s.Keys], want)
			checkKey(t, s, append(slices.Clone(row[:s.Keys]), wrongs()...), want)
			checkKey(t, s, append(slices.Clone(row), null(), whole(1)), want)
			if part, e := schema.Part(s, want); e != api.OK || !slices.Equal(part, row[:s.Keys]) {
				t.Fatalf("Part(%v, %.80q) = %s, %d", s, want, brief(part), e)
			}
		}
	}
}

func checkKey(t *testing.T, s api.Schema, row api.Row, want string) {
	t.Helper()
	if got, e := schema.Key(s, row); e != api.OK || got != want {
		t.Fatalf("Key(%v, %s) = %.80q, %d", s, brief(row), got, e)
	}
}

// P4.2: keys as bytes.
func TestKeyBytes(t *testing.T) {
	row := api.Row{text("a\x00"), whole(1), flag(1), null(), null()}
	const want = "\x03a\x00\xff\x00\x01\x02\x80\x00\x00\x00\x00\x00\x00\x01"
	checkKey(t, people(), row, want)
	if part, e := schema.Part(people(), want); e != api.OK || !slices.Equal(part, row[:2]) {
		t.Errorf("Part = %v, %d", part, e)
	}
}

// P4.2: rows that have no key.
func TestKeyNone(t *testing.T) {
	for _, s := range schemas() {
		row := rows(s)[1]
		for n := range s.Keys {
			wantNoKey(t, s, row[:n])
			for _, v := range append(wrongs(), null()) {
				other := slices.Clone(row)
				other[n] = v
				wantNoKey(t, s, other)
			}
			for _, kind := range kinds() {
				if kind == s.Columns[n].Kind {
					continue
				}
				for _, v := range values(kind) {
					other := slices.Clone(row)
					other[n] = v
					wantNoKey(t, s, other)
				}
			}
		}
		wantNoKey(t, s, nil)
		wantNoKey(t, s, api.Row{})
	}
}

func wantNoKey(t *testing.T, s api.Schema, row api.Row) {
	t.Helper()
	if got, e := schema.Key(s, row); got != "" || e != api.ErrRow {
		t.Fatalf("Key(%v, %s) = %.80q, %d", s, brief(row), got, e)
	}
}

// P4.2: what is no key of the schema has no part.
func TestPartNone(t *testing.T) {
	for _, s := range schemas() {
		key, _ := schema.Key(s, rows(s)[0])
		for n := range min(len(key), 40) {
			wantNoPart(t, s, key[:n])
		}
		for _, more := range []string{"\x00", "\x01\x00", "\x02", "a", "\x03\x00\x01", key} {
			wantNoPart(t, s, key+more)
		}
		for _, bytes := range []string{"\x05", "\x01\x02", "\x03\xff\x00\x01", "\xff", "\x00", "\x00\x00"} {
			wantNoPart(t, s, bytes)
			wantNoPart(t, s, bytes+key)
		}
		for n := range s.Keys {
			for _, kind := range append(kinds(), api.Null) {
				other := slices.Clone(rows(s)[0][:s.Keys])
				if other[n] = (api.Value{Kind: kind}); kind == s.Columns[n].Kind {
					continue
				}
				bytes, e := value.Key(other)
				if e != api.OK {
					t.Fatal(e)
				}
				wantNoPart(t, s, bytes)
			}
		}
	}
}

func wantNoPart(t *testing.T, s api.Schema, key string) {
	t.Helper()
	if got, e := schema.Part(s, key); got != nil || e != api.ErrForm {
		t.Fatalf("Part(%v, %.80q) = %s, %d", s, key, brief(got), e)
	}
}

// P4.3: what changes make of an ordinary table, and the chapter's examples.
func TestApply(t *testing.T) {
	land, id, old, name, face := people().Columns[0], people().Columns[1], people().Columns[2], people().Columns[3], people().Columns[4]
	pair := of(1, must("id", api.Int), must("name", api.Text))
	for i, c := range []struct {
		from   api.Schema
		change api.Change
		want   api.Schema
	}{
		{people(), change(api.Add, may("more", api.Bytes)), of(2, land, id, old, name, face, may("more", api.Bytes))},
		{people(), change(api.Add, may(strings.Repeat("a", api.MaxName), api.Bool)), of(2, land, id, old, name, face, may(strings.Repeat("a", api.MaxName), api.Bool))},
		{people(), change(api.Cut, must("old", api.Null)), of(2, land, id, name, face)},
		{people(), change(api.Cut, may("name", 77)), of(2, land, id, old, face)},
		{people(), change(api.Cut, must("face", api.Bytes)), of(2, land, id, old, name)},
		{people(), change(api.Retype, must("name", api.Int)), of(2, land, id, old, may("name", api.Int), face)},
		{people(), change(api.Retype, may("face", api.Bool)), of(2, land, id, old, name, may("face", api.Bool))},
		{people(), change(api.Retype, may("face", api.Bytes)), people()},
		{pair, change(api.Cut, must("name", api.Text)), of(1, must("id", api.Int))},
		{of(1, must("id", api.Int)), change(api.Add, may("b", api.Int)), of(1, must("id", api.Int), may("b", api.Int))},
		{of(1, many(api.MaxColumns-1)...), change(api.Add, may("b", api.Int)), of(1, append(many(api.MaxColumns-1), may("b", api.Int))...)},
		{of(4, many(api.MaxColumns)...), change(api.Cut, must("c15", api.Int)), of(4, many(api.MaxColumns-1)...)},
		{of(4, many(5)...), change(api.Cut, must("c4", api.Int)), of(4, many(4)...)},
	} {
		// A change's table and schema do not matter.
		for _, table := range []string{"", "people", "No Name"} {
			c.change.Table, c.change.Schema = table, of(len(table), many(len(table))...)
			if got, e := schema.Apply(c.from, c.change); e != api.OK || !schema.Same(got, c.want) {
				t.Errorf("case %d: Apply(%v, %v) = %v, %d", i, c.from, c.change, got, e)
			}
		}
	}
}

// P4.3: a kind of a column is each of four, in Add and Retype.
func TestApplyKinds(t *testing.T) {
	s := of(1, must("k", api.Int), may("v", api.Int))
	for _, kind := range kinds() {
		want := of(1, must("k", api.Int), may("v", api.Int), may("w", kind))
		if got, e := schema.Apply(s, change(api.Add, may("w", kind))); e != api.OK || !schema.Same(got, want) {
			t.Errorf("Add of %d = %v, %d", kind, got, e)
		}
		for _, none := range []bool{false, true} {
			want := of(1, must("k", api.Int), may("v", kind))
			c := change(api.Retype, api.Column{Name: "v", Kind: kind, None: none})
			if got, e := schema.Apply(s, c); e != api.OK || !schema.Same(got, want) {
				t.Errorf("Retype to %d = %v, %d", kind, got, e)
			}
		}
	}
	for _, kind := range others() {
		wantRefused(t, s, change(api.Add, may("w", kind)), api.ErrArg)
		wantRefused(t, s, change(api.Retype, may("v", kind)), api.ErrArg)
	}
}

// P4.3: changes that are refused, the first error first (R2).
func TestApplyRefused(t *testing.T) {
	full, long := of(1, many(api.MaxColumns)...), strings.Repeat("a", api.MaxName+1)
	for _, c := range []struct {
		from   api.Schema
		change api.Change
		want   api.Errno
	}{
		{people(), change(api.Add, may("", api.Int)), api.ErrArg},
		{people(), change(api.Add, may("_a", api.Int)), api.ErrArg},
		{people(), change(api.Add, may(long, api.Int)), api.ErrArg},
		{people(), change(api.Add, must("more", api.Int)), api.ErrArg},
		{people(), change(api.Add, must("name", api.Int)), api.ErrArg},
		{people(), change(api.Add, may("name", api.Null)), api.ErrArg},
		{people(), change(api.Add, may("name", api.Text)), api.ErrExist},
		{people(), change(api.Add, may("id", api.Text)), api.ErrExist},
		{people(), change(api.Add, may("face", api.Text)), api.ErrExist},
		{full, change(api.Add, may("c0", api.Int)), api.ErrExist},
		{full, change(api.Add, may("c15", api.Int)), api.ErrExist},
		{full, change(api.Add, must("c15", api.Int)), api.ErrArg},
		{full, change(api.Add, may("more", 5)), api.ErrArg},
		{full, change(api.Add, may("More", api.Int)), api.ErrArg},
		{full, change(api.Add, may("more", api.Int)), api.ErrSchema},
		{people(), change(api.Cut, must("nobody", api.Int)), api.ErrNone},
		{people(), change(api.Cut, must("", api.Int)), api.ErrNone},
		{people(), change(api.Cut, must(long, api.Int)), api.ErrNone},
		{people(), change(api.Cut, must("land", api.Text)), api.ErrSchema},
		{people(), change(api.Cut, must("id", 9)), api.ErrSchema},
		{of(1, must("id", api.Int)), change(api.Cut, must("id", api.Int)), api.ErrSchema},
		{of(1, must("id", api.Int), must("name", api.Text)), change(api.Cut, must("id", api.Int)), api.ErrSchema},
		{of(4, many(5)...), change(api.Cut, must("c3", api.Int)), api.ErrSchema},
		{people(), change(api.Retype, may("nobody", api.Int)), api.ErrNone},
		{people(), change(api.Retype, may("nobody", api.Null)), api.ErrNone},
		{people(), change(api.Retype, may("", api.Int)), api.ErrNone},
		{people(), change(api.Retype, may("land", api.Int)), api.ErrSchema},
		{people(), change(api.Retype, may("id", api.Int)), api.ErrSchema},
		{people(), change(api.Retype, may("id", 5)), api.ErrSchema},
		{people(), change(api.Retype, may("old", api.Int)), api.ErrSchema},
		{people(), change(api.Retype, may("old", api.Bool)), api.ErrSchema},
		{people(), change(api.Retype, may("old", -1)), api.ErrSchema},
		{people(), change(api.Retype, may("name", api.Null)), api.ErrArg},
	} {
		wantRefused(t, c.from, c.change, c.want)
	}
}

// P4.3: other kinds of changes, whatever else they say.
func TestApplyOtherKinds(t *testing.T) {
	for _, kind := range []int{0, api.Create, api.Drop, 6, -1, 256 + api.Add, 1<<32 + api.Cut, math.MinInt64, math.MaxInt64} {
		for _, c := range []api.Column{may("more", api.Int), may("name", api.Text), must("id", api.Null), {}} {
			wantRefused(t, people(), api.Change{Kind: kind, Table: "people", Schema: people(), Column: c}, api.ErrKind)
		}
	}
}

func wantRefused(t *testing.T, s api.Schema, c api.Change, want api.Errno) {
	t.Helper()
	if got, e := schema.Apply(s, c); e != want || got.Keys != 0 || got.Columns != nil {
		t.Errorf("Apply(%v, %v) = %v, %d, not %d", s, c, got, e, want)
	}
}

// P4.4: what changes make of an ordinary table's row.
func TestTurn(t *testing.T) {
	land, id, old, name, face := text("ch"), whole(7), flag(1), text("Ada"), blob("\xff")
	row := api.Row{land, id, old, name, face}
	for i, c := range []struct {
		change api.Change
		want   api.Row
	}{
		{change(api.Add, may("more", api.Bytes)), api.Row{land, id, old, name, face, null()}},
		{change(api.Cut, must("old", api.Null)), api.Row{land, id, name, face}},
		{change(api.Cut, must("name", api.Null)), api.Row{land, id, old, face}},
		{change(api.Cut, must("face", api.Null)), api.Row{land, id, old, name}},
		{change(api.Retype, must("name", api.Int)), api.Row{land, id, old, null(), face}},
		{change(api.Retype, may("face", api.Bytes)), api.Row{land, id, old, name, null()}},
	} {
		for _, table := range []string{"", "people"} {
			c.change.Table, c.change.Schema = table, of(len(table), many(len(table))...)
			if got := schema.Turn(people(), c.change, row); !slices.Equal(got, c.want) {
				t.Errorf("case %d: Turn(%v) = %v", i, c.change, got)
			}
		}
	}
	empty := api.Row{land, id, old, null(), null()}
	if got := schema.Turn(people(), change(api.Retype, may("name", api.Int)), empty); !slices.Equal(got, empty) {
		t.Errorf("Turn where Null stood = %v", got)
	}
}

// changes is changes of a schema, of which some can't be.
func changes(s api.Schema) []api.Change {
	l := []api.Change{change(api.Add, must("new", api.Int)), change(api.Add, may("", api.Int)), change(api.Cut, may("new", api.Int)), change(api.Create, may("new", api.Int))}
	for _, kind := range append(kinds(), others()...) {
		l = append(l, change(api.Add, may("new", kind)))
		for _, c := range s.Columns {
			l = append(l, change(api.Retype, may(c.Name, kind)), change(api.Retype, must(c.Name, kind)))
		}
	}
	for _, c := range s.Columns {
		l = append(l, change(api.Cut, c), change(api.Add, may(c.Name, c.Kind)))
	}
	return l
}

// P4.5: what Apply tells may be; a row that is turned fits it, and has the key
// that it had.
func TestTurnedFits(t *testing.T) {
	done := map[int]int{}
	for _, s := range schemas() {
		for _, c := range changes(s) {
			behind, e := schema.Apply(s, c)
			if e != api.OK {
				continue
			}
			done[c.Kind]++
			if !schema.May(behind) || behind.Keys != s.Keys {
				t.Fatalf("Apply(%v, %v) = %v, which may not be", s, c, behind)
			}
			for _, row := range rows(s) {
				checkTurned(t, s, behind, c, row)
			}
		}
	}
	if done[api.Add] < 30 || done[api.Cut] < 30 || done[api.Retype] < 30 {
		t.Errorf("too few changes were tried: %v", done)
	}
}

func checkTurned(t *testing.T, s, behind api.Schema, c api.Change, row api.Row) {
	t.Helper()
	turned := schema.Turn(s, c, row)
	was, _ := schema.Key(s, row)
	is, e := schema.Key(behind, turned)
	if !schema.Fits(behind, turned) || e != api.OK || is != was {
		t.Fatalf("Turn(%v, %v, %s) = %s", s, c, brief(row), brief(turned))
	}
}

// R4: nothing that is handed in is changed, nor its spare room, and what is
// answered is new memory.
func TestNothingShared(t *testing.T) {
	for _, s := range schemas() {
		s.Columns = spare(s.Columns, may("room", api.Int))
		kept := schema.Clone(s)
		for _, c := range changes(s) {
			for _, first := range rows(s)[:2] {
				row := api.Row(spare(first, whole(99)))
				turned := schema.Turn(s, c, row)
				behind, _ := schema.Apply(s, c)
				schema.Key(s, row)
				schema.Fits(s, row)
				for i := range turned {
					turned[i] = whole(-5)
				}
				for i := range behind.Columns {
					behind.Columns[i] = may("changed", api.Bool)
				}
				if !schema.Same(s, kept) || s.Columns[:len(s.Columns)+1][len(s.Columns)] != may("room", api.Int) {
					t.Fatalf("%v changed the columns", c)
				}
				if !slices.Equal(row, first) || row[:len(row)+1][len(row)] != whole(99) {
					t.Fatalf("%v changed the row", c)
				}
			}
		}
	}
}

// R4: two answers share nothing.
func TestAnswersApart(t *testing.T) {
	s, c, row := people(), change(api.Add, may("more", api.Int)), rows(people())[0]
	a, _ := schema.Apply(s, c)
	b, _ := schema.Apply(s, c)
	a.Columns[0].Name = "other"
	if b.Columns[0].Name != "land" {
		t.Error("two answers of Apply share their columns")
	}
	one, other := schema.Turn(s, c, row), schema.Turn(s, c, row)
	one[0] = null()
	if other[0] != row[0] {
		t.Error("two answers of Turn share their values")
	}
}

// R1: no call panics, at schemas that may not be and rows that do not fit.
func TestNoPanic(t *testing.T) {
	odd := append(schemas(), api.Schema{}, of(3), of(-1, must("a", api.Int)), of(5, must("a", api.Int)), of(math.MaxInt64, must("a", api.Int)), of(math.MinInt64),
		of(1, may("a", api.Null), may("a", api.Null)), of(1, many(40)...))
	list := []api.Row{nil, {}, {null()}, {whole(1)}, {whole(1), text("a")}, wrongs()}
	for _, s := range odd {
		for _, row := range append(list, rows(people())...) {
			schema.May(s)
			schema.Fits(s, row)
			schema.Key(s, row)
			schema.Clone(s)
			for _, key := range []string{"", "\x00", "\x02\x80\x00\x00\x00\x00\x00\x00\x01", "\xff"} {
				schema.Part(s, key)
			}
			for _, c := range append(changes(people()), changes(s)...) {
				schema.Apply(s, c)
				schema.Turn(s, c, row)
			}
		}
	}
}
