package chunk_test

import (
	"fmt"
	"maps"
	"math/rand/v2"
	"slices"
	"testing"

	"pantograph/api"
	"pantograph/chunk"
	"pantograph/schema"
)

// paper is works on paper: of each table that has one, how far it is.
type paper map[string]api.Work

// list is the works, in order.
func (p paper) list() []api.Work {
	var l []api.Work
	for _, name := range slices.Sorted(maps.Keys(p)) {
		l = append(l, p[name])
	}
	return l
}

// covers is Covers as the chapter's words say it.
func (p paper) covers(table, key string) bool {
	w, ok := p[table]
	return ok && (w.Done || w.Key != "" && (w.Key == key || w.Key > key))
}

func (p paper) add(table string) api.Errno {
	if !schema.Name(table) {
		return api.ErrName
	}
	if _, ok := p[table]; ok {
		return api.ErrExist
	}
	p[table] = begun(table)
	return api.OK
}

// to is Go: keys tells which of the texts that are tried are keys.
func (p paper) to(table, last string, end bool, keys []string) api.Errno {
	w, ok := p[table]
	if !ok {
		return api.ErrNone
	}
	if w.Done || !end && (!slices.Contains(keys, last) || last <= w.Key) {
		return api.ErrState
	}
	if end {
		p[table] = done(table)
	} else {
		p[table] = upTo(table, last)
	}
	return api.OK
}

// call is a call of Add, Drop or Go.
type call struct {
	what        string
	table, last string
	end         bool
}

// do does a call on works and on paper, and checks that both tell the same.
func (c call) do(t *testing.T, l []api.Work, p paper, keys []string) []api.Work {
	t.Helper()
	var got []api.Work
	var e, want api.Errno
	switch c.what {
	case "Add":
		got, e = chunk.Add(l, c.table)
		want = p.add(c.table)
	case "Drop":
		got = chunk.Drop(l, c.table)
		delete(p, c.table)
	case "Go":
		got, e = chunk.Go(l, c.table, c.last, c.end)
		want = p.to(c.table, c.last, c.end, keys)
	}
	if e != want || e != api.OK && len(got) > 0 {
		t.Fatalf("%v of %s: %s%v, not %v", c, sign(l), sign(got), e, want)
	}
	if e != api.OK {
		got = l
	}
	if !slices.Equal(got, p.list()) {
		t.Fatalf("%v of %s: %s, not %s", c, sign(l), sign(got), sign(p.list()))
	}
	return got
}

// wantAsOnPaper checks what works tell against paper.
func wantAsOnPaper(t *testing.T, l []api.Work, p paper, texts []string) {
	t.Helper()
	i := slices.IndexFunc(l, func(w api.Work) bool { return !w.Done })
	if w, ok := chunk.Next(l); ok != (i >= 0) || ok && w != l[i] || !ok && w != (api.Work{}) {
		t.Fatalf("Next of %s: %v, %t", sign(l), w, ok)
	}
	if !chunk.Right(l) {
		t.Fatal("may not be:", sign(l))
	}
	for _, table := range []string{"", "a", "aa", "b", "c"} {
		for _, text := range texts {
			if got := chunk.Covers(l, table, text); got != p.covers(table, text) {
				t.Fatalf("Covers of %s, %q, %q: %t", sign(l), table, text, got)
			}
		}
	}
	b, e := chunk.Write(of(1, 2, 3, l...))
	if e != api.OK {
		t.Fatal(sign(l), e)
	}
	wantPoint(t, b, of(1, 2, 3, l...))
}

// calls is the calls that are tried.
func calls() []call {
	return []call{
		{what: "Add", table: "a"}, {what: "Add", table: "aa"}, {what: "Add", table: "B"}, {what: "Drop", table: "a"}, {what: "Drop", table: "c"},
		{what: "Go", table: "a", last: id(1)}, {what: "Go", table: "a", last: id(2)}, {what: "Go", table: "a", last: "x"}, {what: "Go", table: "a", end: true},
		{what: "Go", table: "aa", last: id(1)}, {what: "Go", table: "aa", last: id(1), end: true}, {what: "Go", table: "b"},
	}
}

// P11.1 to P11.4: all rows of up to four calls.
func TestAllRows(t *testing.T) {
	keys := []string{id(1), id(2)}
	texts := []string{"", "\x00", id(0), id(1), id(1) + "\x00", id(2), id(3), "\xff"}
	var follow func(l []api.Work, p paper, left int)
	follow = func(l []api.Work, p paper, left int) {
		wantAsOnPaper(t, l, p, texts)
		if left == 0 {
			return
		}
		for _, c := range calls() {
			own := maps.Clone(p)
			follow(c.do(t, l, own, keys), own, left-1)
		}
	}
	follow(nil, paper{}, 4)
}

// P11.1 to P11.4: seeded long rows on more tables, with more keys; what was
// covered stays so, but where a work is dropped.
func TestLongRows(t *testing.T) {
	r := rand.New(rand.NewPCG(11, 4))
	right := keys(t)
	lasts := slices.Concat(right, wrongKeys(), []string{""})
	texts := slices.Concat(right[:20], []string{"", "x", "\xff"})
	for range 100 {
		var l []api.Work
		p := paper{}
		for range 100 {
			c := call{what: []string{"Add", "Add", "Go", "Go", "Go", "Go", "Drop"}[r.IntN(7)], table: []string{"a", "aa", "b", "c", "z", "Z"}[r.IntN(6)]}
			c.last, c.end = lasts[r.IntN(len(lasts))], r.IntN(8) == 0
			behind := c.do(t, l, p, right)
			wantAsOnPaper(t, behind, p, texts)
			if c.what != "Drop" && !holds(covered(behind, texts), covered(l, texts)) {
				t.Fatalf("%v of %s: what was covered is not by %s", c, sign(l), sign(behind))
			}
			l = behind
		}
	}
}

// covered is which of the texts are covered, table by table.
func covered(l []api.Work, texts []string) []string {
	var out []string
	for _, table := range []string{"a", "aa", "b", "c", "z"} {
		for _, text := range texts {
			if chunk.Covers(l, table, text) {
				out = append(out, fmt.Sprintf("%s %q", table, text))
			}
		}
	}
	return out
}

// holds tells whether all of b is in a.
func holds(a, b []string) bool {
	for _, s := range b {
		if !slices.Contains(a, s) {
			return false
		}
	}
	return true
}
