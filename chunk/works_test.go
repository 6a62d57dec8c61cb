package chunk_test

import (
	"fmt"
	"math"
	"slices"
	"strings"
	"testing"

	"pantograph/api"
	"pantograph/chunk"
	"pantograph/schema"
	"pantograph/value"
)

// begun is a table's work at its beginning, upTo one that came to a key, done
// one at its end.
func begun(table string) api.Work     { return api.Work{Table: table} }
func upTo(table, key string) api.Work { return api.Work{Table: table, Key: key} }
func done(table string) api.Work      { return api.Work{Table: table, Done: true} }

// id is the key of an Int from 0 to 255, byte by byte.
func id(n int) string { return "\x02\x80\x00\x00\x00\x00\x00\x00" + string([]byte{byte(n)}) }

// key is the key of any values.
func key(t *testing.T, l ...api.Value) string {
	t.Helper()
	k, e := value.Key(l)
	if e != api.OK {
		t.Fatal(l, e)
	}
	return k
}

// long is the longest name.
func long() string { return strings.Repeat("z", api.MaxName) }

// names is texts that are names, rising; wrongNames is texts that are none.
func names() []string {
	return []string{"a", "a0", "a_", "aa", "b", "people", "z9_z", long()}
}

func wrongNames() []string {
	return []string{"", "A", "1", "_", "_a", "a-", "a ", "ä", "aä", "a\x00", "a\xff", "People", " people", long() + "z", strings.Repeat("q", 300)}
}

// keys is texts that are keys of one value or more: of each kind, of several
// values, of more than a table's key has, and of long ones.
func keys(t *testing.T) []string {
	l := []string{
		"\x00", "\x00\x00", "\x01\x00", "\x01\x01", id(0), id(1), id(255), "\x02\x00\x00\x00\x00\x00\x00\x00\x00", "\x02" + strings.Repeat("\xff", 8),
		"\x03\x00\x01", "\x03a\x00\x01", "\x03\x00\xff\x00\x01", "\x03\xc3\xa4\x00\x01", "\x04\x00\x01", "\x04\xff\x00\x01", "\x04\x00\xff\x00\xff\x00\x01",
		id(1) + id(1), id(1) + "\x00", "\x03a\x00\x01\x01\x01", strings.Repeat(id(7), 20),
	}
	for _, kind := range []int{api.Text, api.Bytes} {
		most := api.Value{Kind: kind, Text: strings.Repeat("\x00", api.MaxText)}
		l = append(l, key(t, most), key(t, most, most, most, most, most))
	}
	return l
}

// wrongKeys is texts that are neither keys nor empty.
func wrongKeys() []string {
	return []string{
		"a", "\x05", "\xff", "\x00\x05", "\x01", "\x01\x02", "\x01\xff", "\x02", id(1)[:8], id(1) + "\x02", id(1) + "\x07", "\x03", "\x03a", "\x03a\x00", "\x03\x00\x02",
		"\x03\x00\x00\x01", "\x03\xff\x00\x01", "\x03\xc3\x00\x01", "\x04", "\x04\x00\xff", "\x04\x00", "\x03" + strings.Repeat("x", api.MaxText+1) + "\x00\x01",
	}
}

// sign is works as a text, by which they can be told from others.
func sign(l []api.Work) string {
	s := ""
	for _, w := range l {
		s += fmt.Sprintf("%q %t %.60q; ", w.Table, w.Done, w.Key)
	}
	return s
}

// wantWorks checks works that a call told against those that are asked for.
func wantWorks(t *testing.T, call string, got []api.Work, e api.Errno, want []api.Work, wantErrno api.Errno) {
	t.Helper()
	if e != wantErrno || !slices.Equal(got, want) {
		t.Fatalf("%s: %s%v, not %s%v", call, sign(got), e, sign(want), wantErrno)
	}
}

// wantOwn checks that a call leaves what it is handed, its spare room too, and
// that its answer is memory of its own.
func wantOwn(t *testing.T, name string, l []api.Work, call func(l []api.Work) []api.Work) {
	t.Helper()
	handed := append(slices.Clone(l), done("spare"), done("room"), done("behind"))
	kept := slices.Clone(handed)
	got := call(handed[:len(l)])
	told := slices.Clone(got)
	if !slices.Equal(handed, kept) {
		t.Fatalf("%s: what was handed in is %s", name, sign(handed))
	}
	for i := range handed {
		handed[i] = begun("other")
	}
	if !slices.Equal(got, told) {
		t.Fatalf("%s: what was told hangs on what was handed in: %s", name, sign(got))
	}
	for i := range got[:cap(got)] {
		got[:cap(got)][i] = begun("another")
	}
	if slices.Contains(handed, begun("another")) {
		t.Fatalf("%s: what was handed in hangs on what was told", name)
	}
}

// P11.1: works that may be: none, and those of names that rise, each once.
func TestRight(t *testing.T) {
	for _, l := range [][]api.Work{
		nil, {}, {begun("a")}, {done("a")}, {upTo("a", id(1))}, {begun("a"), begun("b")}, {done("a"), upTo("b", id(9)), begun("c")},
		{begun("a"), begun("a0"), begun("a_"), begun("aa"), begun("b")},
	} {
		if !chunk.Right(l) {
			t.Error("may not be:", sign(l))
		}
	}
	for _, l := range [][]api.Work{
		{{}}, {begun("a"), begun("a")}, {begun("a"), done("a")}, {upTo("a", id(1)), upTo("a", id(2))}, {begun("b"), begun("a")}, {begun("aa"), begun("a")},
		{begun("a"), begun("b"), begun("b")}, {begun("a"), begun("c"), begun("b")}, {begun("a"), begun("b"), begun("a")}, {begun("a"), {}}, {{}, begun("a")},
		{{Table: "a", Done: true, Key: id(1)}}, {{Table: "a", Done: true, Key: "x"}}, {upTo("a", "x")}, {begun("a"), upTo("b", "x")}, {begun("A")},
	} {
		if chunk.Right(l) {
			t.Error("may be:", sign(l))
		}
	}
}

// P11.1: a table's name is a name, with whatever work it is.
func TestRightNames(t *testing.T) {
	for i, l := range [][]string{names(), wrongNames()} {
		for _, name := range l {
			for _, w := range []api.Work{begun(name), done(name), upTo(name, id(1))} {
				if chunk.Right([]api.Work{w}) != (i == 0) {
					t.Errorf("Right of %s: %t", sign([]api.Work{w}), i != 0)
				}
			}
		}
	}
}

// P11.1: a key is one of chapter 3, of one value or more, or empty; and empty of
// one that is done.
func TestRightKeys(t *testing.T) {
	for i, l := range [][]string{keys(t), wrongKeys()} {
		for _, k := range l {
			for _, ahead := range [][]api.Work{nil, {begun("a")}, {done("a"), upTo("b", id(1))}} {
				if chunk.Right(append(ahead, upTo("t", k))) != (i == 0) {
					t.Errorf("Right of a work up to %.60q: %t", k, i != 0)
				}
				if chunk.Right(append(ahead, api.Work{Table: "t", Done: true, Key: k})) {
					t.Errorf("Right of a work that is done, with %.60q: true", k)
				}
			}
		}
	}
}

// P11.1: there may be any number of works, more than of tables too.
func TestRightMany(t *testing.T) {
	var l []api.Work
	for i := range 3 * api.MaxTables {
		l = append(l, upTo(fmt.Sprintf("t%04d", i), id(i%256)))
	}
	if !chunk.Right(l) {
		t.Error("may not be")
	}
	for i := range l {
		was := l[i]
		for _, w := range []api.Work{{}, upTo(was.Table, "x"), begun("t"), begun("u"), {Table: was.Table, Done: true, Key: was.Key}} {
			l[i] = w
			right := i == 0 && w.Table == "t" || i == len(l)-1 && w.Table == "u"
			if chunk.Right(l) != right {
				t.Errorf("Right with %s at %d: %t", sign(l[i:i+1]), i, !right)
			}
		}
		l[i] = was
	}
}

// P11.1: a work more, at its place, from the beginning.
func TestAdd(t *testing.T) {
	for _, c := range []struct {
		l     []api.Work
		table string
		want  []api.Work
		errno api.Errno
	}{
		{nil, "a", []api.Work{begun("a")}, api.OK},
		{[]api.Work{}, long(), []api.Work{begun(long())}, api.OK},
		{[]api.Work{done("b")}, "a", []api.Work{begun("a"), done("b")}, api.OK},
		{[]api.Work{done("b")}, "c", []api.Work{done("b"), begun("c")}, api.OK},
		{[]api.Work{done("b")}, "b", nil, api.ErrExist},
		{[]api.Work{begun("b")}, "b", nil, api.ErrExist},
		{[]api.Work{upTo("b", id(1))}, "b", nil, api.ErrExist},
		{[]api.Work{upTo("a", id(1)), done("c")}, "b", []api.Work{upTo("a", id(1)), begun("b"), done("c")}, api.OK},
		{[]api.Work{upTo("a", id(1)), done("c")}, "c", nil, api.ErrExist},
		{[]api.Work{begun("aa")}, "a", []api.Work{begun("a"), begun("aa")}, api.OK},
		{[]api.Work{begun("a"), begun("b")}, "aa", []api.Work{begun("a"), begun("aa"), begun("b")}, api.OK},
		{[]api.Work{begun("a0"), begun("aa")}, "a_", []api.Work{begun("a0"), begun("a_"), begun("aa")}, api.OK},
	} {
		got, e := chunk.Add(c.l, c.table)
		wantWorks(t, fmt.Sprintf("Add of %q to %s", c.table, sign(c.l)), got, e, c.want, c.errno)
		wantOwn(t, "Add", c.l, func(l []api.Work) []api.Work {
			got, _ := chunk.Add(l, c.table)
			return got
		})
	}
}

// P11.1: what is no name is not added, whatever works there are.
func TestAddWrongNames(t *testing.T) {
	for _, name := range wrongNames() {
		for _, l := range [][]api.Work{nil, {done("a")}, {begun("a"), begun(long())}} {
			got, e := chunk.Add(l, name)
			wantWorks(t, fmt.Sprintf("Add of %q", name), got, e, nil, api.ErrName)
		}
	}
}

// P11.1: works are added in any row, and all but the one that is dropped stay.
func TestAddDropMany(t *testing.T) {
	const many = 3 * api.MaxTables
	var l, rising []api.Work
	for i := range many {
		// 7 and many have no divisor in common: each comes once.
		got, e := chunk.Add(l, fmt.Sprintf("t%04d", i*7%many))
		if e != api.OK {
			t.Fatal(e)
		}
		l, rising = got, append(rising, begun(fmt.Sprintf("t%04d", i)))
	}
	wantWorks(t, "Add of many", l, api.OK, rising, api.OK)
	for i, w := range rising {
		want := slices.Concat(rising[:i], rising[i+1:])
		wantWorks(t, "Drop of one of many", chunk.Drop(rising, w.Table), api.OK, want, api.OK)
		got, e := chunk.Add(want, w.Table)
		wantWorks(t, "Add of one of many", got, e, rising, api.OK)
		got, e = chunk.Add(rising, w.Table)
		wantWorks(t, "Add of one that is there", got, e, nil, api.ErrExist)
	}
}

// P11.1: without a work, if there is one.
func TestDrop(t *testing.T) {
	all := []api.Work{begun("a"), upTo("aa", id(1)), done("b")}
	for _, c := range []struct {
		l     []api.Work
		table string
		want  []api.Work
	}{
		{nil, "a", nil},
		{[]api.Work{}, "", nil},
		{all[:1], "a", nil},
		{all, "a", []api.Work{upTo("aa", id(1)), done("b")}},
		{all, "aa", []api.Work{begun("a"), done("b")}},
		{all, "b", all[:2]},
		{all, "c", all},
		{all, "0", all},
		{all, "ab", all},
		{all, "aaa", all},
		{all, "", all},
		{all, "A", all},
		{all, long() + "z", all},
	} {
		wantWorks(t, fmt.Sprintf("Drop of %q from %s", c.table, sign(c.l)), chunk.Drop(c.l, c.table), api.OK, c.want, api.OK)
		wantOwn(t, "Drop", c.l, func(l []api.Work) []api.Work { return chunk.Drop(l, c.table) })
	}
}

// P11.1: the first work that is not done.
func TestNext(t *testing.T) {
	for _, c := range []struct {
		l    []api.Work
		want api.Work
		ok   bool
	}{
		{nil, api.Work{}, false},
		{[]api.Work{}, api.Work{}, false},
		{[]api.Work{done("a")}, api.Work{}, false},
		{[]api.Work{done("a"), done("b"), done("c")}, api.Work{}, false},
		{[]api.Work{begun("a")}, begun("a"), true},
		{[]api.Work{upTo("a", id(1))}, upTo("a", id(1)), true},
		{[]api.Work{begun("a"), upTo("b", id(1))}, begun("a"), true},
		{[]api.Work{upTo("a", id(1)), begun("b")}, upTo("a", id(1)), true},
		{[]api.Work{done("a"), upTo("b", id(1)), begun("c")}, upTo("b", id(1)), true},
		{[]api.Work{done("a"), done("b"), begun("c")}, begun("c"), true},
		{[]api.Work{begun("a"), done("b")}, begun("a"), true},
	} {
		if w, ok := chunk.Next(c.l); w != c.want || ok != c.ok {
			t.Errorf("Next of %s: %v, %t", sign(c.l), w, ok)
		}
	}
}

// P11.2: a work up to 5 covers the keys up to that one, and no others; one at
// its beginning covers none, one that is done all, and neither another table's.
func TestCovers(t *testing.T) {
	l := []api.Work{begun("a"), done("b"), upTo("t", id(5)), upTo("u", id(7)+id(0))}
	for _, c := range []struct {
		table, key string
		want       bool
	}{
		{"t", id(4), true}, {"t", id(5), true}, {"t", id(6), false}, {"t", id(0), true}, {"t", id(255), false},
		{"t", id(5)[:8], true}, {"t", id(5) + "\x00", false}, {"t", id(4) + "\xff", true}, {"t", "", true}, {"t", "\x01", true}, {"t", "\x03", false}, {"t", "\xff", false},
		{"u", id(5), true}, {"u", id(7), true}, {"u", id(7) + id(0), true}, {"u", id(7) + id(1), false}, {"u", id(8), false},
		{"a", "", false}, {"a", "\x00", false}, {"a", id(1), false}, {"a", "\xff", false},
		{"b", "", true}, {"b", id(1), true}, {"b", "\xff", true}, {"b", "no key", true}, {"b", strings.Repeat("\xff", 5000), true},
		{"c", "", false}, {"c", id(1), false}, {"", "", false}, {"", id(1), false}, {"aa", id(1), false}, {"bb", id(1), false}, {"s", id(1), false}, {"tt", id(1), false}, {"T", id(1), false}, {"z", "", false},
	} {
		if got := chunk.Covers(l, c.table, c.key); got != c.want {
			t.Errorf("Covers of %q, %q: %t", c.table, c.key, got)
		}
		if chunk.Covers(nil, c.table, c.key) {
			t.Errorf("Covers of no works, %q, %q: true", c.table, c.key)
		}
	}
}

// P11.2: of all keys and texts: those that do not come behind the work's key.
func TestCoversAll(t *testing.T) {
	texts := slices.Concat([]string{""}, keys(t), wrongKeys(), names())
	for _, k := range keys(t) {
		l := []api.Work{done("s"), upTo("t", k), begun("u")}
		for _, text := range texts {
			if got := chunk.Covers(l, "t", text); got != (strings.Compare(text, k) <= 0) {
				t.Fatalf("a work up to %.60q covers %.60q: %t", k, text, got)
			}
			if !chunk.Covers(l, "s", text) || chunk.Covers(l, "u", text) {
				t.Fatalf("%.60q of one that is done, or at its beginning", text)
			}
		}
	}
}

// P11.2: a work goes on to a key behind its own, or to its end.
func TestGo(t *testing.T) {
	all := []api.Work{begun("a"), done("b"), upTo("t", id(5))}
	for _, c := range []struct {
		table, last string
		done        bool
		want        []api.Work
		errno       api.Errno
	}{
		{"a", id(0), false, []api.Work{upTo("a", id(0)), all[1], all[2]}, api.OK},
		{"a", "\x00", false, []api.Work{upTo("a", "\x00"), all[1], all[2]}, api.OK},
		{"a", "", true, []api.Work{done("a"), all[1], all[2]}, api.OK},
		{"a", "", false, nil, api.ErrState},
		{"a", "x", false, nil, api.ErrState},
		{"a", "x", true, []api.Work{done("a"), all[1], all[2]}, api.OK},
		{"a", id(9), true, []api.Work{done("a"), all[1], all[2]}, api.OK},
		{"b", id(9), false, nil, api.ErrState},
		{"b", id(9), true, nil, api.ErrState},
		{"b", "", true, nil, api.ErrState},
		{"b", "", false, nil, api.ErrState},
		{"t", id(6), false, []api.Work{all[0], all[1], upTo("t", id(6))}, api.OK},
		{"t", id(5) + "\x00", false, []api.Work{all[0], all[1], upTo("t", id(5)+"\x00")}, api.OK},
		{"t", "\x03a\x00\x01", false, []api.Work{all[0], all[1], upTo("t", "\x03a\x00\x01")}, api.OK},
		{"t", id(5), false, nil, api.ErrState},
		{"t", id(4), false, nil, api.ErrState},
		{"t", "", false, nil, api.ErrState},
		{"t", "\xff", false, nil, api.ErrState},
		{"t", id(6)[:8], false, nil, api.ErrState},
		{"t", id(5), true, []api.Work{all[0], all[1], done("t")}, api.OK},
		{"t", id(4), true, []api.Work{all[0], all[1], done("t")}, api.OK},
		{"t", "", true, []api.Work{all[0], all[1], done("t")}, api.OK},
		{"t", "\xff", true, []api.Work{all[0], all[1], done("t")}, api.OK},
		{"c", id(6), false, nil, api.ErrNone},
		{"c", id(6), true, nil, api.ErrNone},
		{"c", "", false, nil, api.ErrNone},
		{"", "x", false, nil, api.ErrNone},
		{"tt", "x", false, nil, api.ErrNone},
		{"T", "", true, nil, api.ErrNone},
	} {
		got, e := chunk.Go(all, c.table, c.last, c.done)
		wantWorks(t, fmt.Sprintf("Go of %q, %q, %t", c.table, c.last, c.done), got, e, c.want, c.errno)
		wantOwn(t, "Go", all, func(l []api.Work) []api.Work {
			got, _ := chunk.Go(l, c.table, c.last, c.done)
			return got
		})
		got, e = chunk.Go(nil, c.table, c.last, c.done)
		wantWorks(t, "Go of no works", got, e, nil, api.ErrNone)
	}
}

// P11.2: from any key to any text: just to the keys behind it.
func TestGoAll(t *testing.T) {
	from := append(keys(t), "")
	right := keys(t)
	for _, k := range from {
		l := []api.Work{done("s"), upTo("t", k), begun("u")}
		for _, last := range slices.Concat(right, wrongKeys(), []string{""}) {
			var want []api.Work
			errno := api.ErrState
			if slices.Contains(right, last) && last > k {
				want, errno = []api.Work{done("s"), upTo("t", last), begun("u")}, api.OK
			}
			got, e := chunk.Go(l, "t", last, false)
			wantWorks(t, fmt.Sprintf("Go from %.60q to %.60q", k, last), got, e, want, errno)
			got, e = chunk.Go(l, "t", last, true)
			wantWorks(t, fmt.Sprintf("Go from %.60q to the end", k), got, e, []api.Work{done("s"), done("t"), begun("u")}, api.OK)
		}
	}
}

// P11.1, P11.2: the works that are told may be, and Right tells so by what the
// words ask of each, for all lists of up to three works out of some.
func TestAllLists(t *testing.T) {
	some := []api.Work{
		begun("a"), done("a"), upTo("a", id(1)), begun("b"), upTo("b", id(2)), done("c"), upTo("c", "\x00"),
		{}, begun("B"), upTo("b", "x"), {Table: "b", Done: true, Key: id(1)}, done(""), upTo("", id(1)),
	}
	lists := [][]api.Work{nil}
	for i := 0; i < len(lists); i++ {
		l := lists[i]
		if got := chunk.Right(l); got != right(t, l) {
			t.Fatalf("Right of %s: %t", sign(l), got)
		}
		if right(t, l) {
			wantAllRight(t, l)
		}
		if len(l) < 3 {
			for _, w := range some {
				lists = append(lists, append(l[:len(l):len(l)], w))
			}
		}
	}
}

// right is Right as the chapter's words say it.
func right(t *testing.T, l []api.Work) bool {
	t.Helper()
	right := slices.Concat(keys(t), []string{id(2)})
	for i, w := range l {
		if !schema.Name(w.Table) || w.Key != "" && !slices.Contains(right, w.Key) || w.Done && w.Key != "" {
			return false
		}
		for _, other := range l[:i] {
			if strings.Compare(other.Table, w.Table) >= 0 {
				return false
			}
		}
	}
	return true
}

// wantAllRight checks that whatever comes of works that may be may be, or is an
// error's nothing.
func wantAllRight(t *testing.T, l []api.Work) {
	t.Helper()
	for _, table := range []string{"", "0", "a", "aa", "b", "c", "d", "C"} {
		if got := chunk.Drop(l, table); !chunk.Right(got) || slices.Contains(tables(got), table) {
			t.Fatalf("Drop of %q: %s", table, sign(got))
		}
		got, e := chunk.Add(l, table)
		if !chunk.Right(got) || (e == api.OK) != slices.Contains(tables(got), table) {
			t.Fatalf("Add of %q: %s%v", table, sign(got), e)
		}
		for _, last := range []string{"", "x", "\x00", id(1), id(2), id(3)} {
			for _, end := range []bool{false, true} {
				got, e := chunk.Go(l, table, last, end)
				if !chunk.Right(got) || e == api.OK && !slices.Equal(tables(got), tables(l)) || e != api.OK && len(got) > 0 {
					t.Fatalf("Go of %q, %q: %s%v", table, last, sign(got), e)
				}
			}
		}
	}
}

// tables is the works' tables.
func tables(l []api.Work) []string {
	var names []string
	for _, w := range l {
		names = append(names, w.Table)
	}
	return names
}

// P11.4: what is covered stays so behind Add and Go.
func TestStaysCovered(t *testing.T) {
	texts := slices.Concat([]string{"", "x", "\xff"}, keys(t))
	lasts := []string{"", "\x00", "x", id(0), id(1), id(1) + "\x00", id(2), "\x03a\x00\x01", "\x04\xff\x00\x01"}
	for _, l := range [][]api.Work{
		nil, {begun("a")}, {done("a")}, {upTo("a", "\x00")}, {upTo("a", id(1))}, {begun("a"), upTo("b", id(1))}, {upTo("a", id(1)), done("b")}, {upTo("b", "\x03a\x00\x01"), upTo("c", id(1))},
	} {
		var behind [][]api.Work
		for _, table := range []string{"a", "aa", "b", "c", "0"} {
			if got, e := chunk.Add(l, table); e == api.OK {
				behind = append(behind, got)
			}
			for _, last := range lasts {
				for _, end := range []bool{false, true} {
					if got, e := chunk.Go(l, table, last, end); e == api.OK {
						behind = append(behind, got)
					}
				}
			}
		}
		for _, got := range behind {
			for _, table := range []string{"a", "aa", "b", "c"} {
				for _, text := range texts {
					if chunk.Covers(l, table, text) && !chunk.Covers(got, table, text) {
						t.Fatalf("%q, %.60q was covered by %s, and is not by %s", table, text, sign(l), sign(got))
					}
				}
			}
		}
	}
}

// Nothing is promised of works that may not be: no call panics there, and each
// ends.
func TestWrongWorks(t *testing.T) {
	for _, l := range [][]api.Work{
		{{}}, {{}, {}}, {begun("b"), begun("a")}, {begun("a"), begun("a")}, {upTo("a", "x")}, {{Table: "a", Done: true, Key: "x"}}, {{Table: "\xff", Key: "\xff"}, done("a"), {}},
	} {
		for _, table := range slices.Concat(names(), wrongNames()) {
			chunk.Add(l, table)
			chunk.Drop(l, table)
			chunk.Covers(l, table, "\xff")
			chunk.Go(l, table, "\xff", false)
			chunk.Go(l, table, id(1), true)
		}
		chunk.Next(l)
		for _, n := range []int{0, 1, -1, math.MinInt64, math.MaxInt64} {
			if b, e := chunk.Write(api.Point{At: n, Works: l}); len(b) > 0 || e != api.ErrArg {
				t.Errorf("Write of %s: %v, %v", sign(l), b, e)
			}
		}
	}
}
