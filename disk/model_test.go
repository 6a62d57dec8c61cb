package disk_test

import (
	"fmt"
	"math/rand/v2"
	"slices"
	"strings"
	"testing"

	"pantograph/api"
	"pantograph/disk"
)

// paper is a disk on paper: a value, with the files as their names rise.
type paper struct {
	room, armed int
	down        bool
	files       []page
}

type page struct{ name, kept, loose string }

// at is where a file stands, or would stand, and whether it is there.
func (p paper) at(name string) (int, bool) {
	return slices.BinarySearchFunc(p.files, name, func(f page, name string) int { return strings.Compare(f.name, name) })
}

func (p paper) free() int {
	n := p.room
	for _, f := range p.files {
		n -= len(f.kept) + len(f.loose)
	}
	return n
}

// goes counts a deed, and tells whether the power goes at it.
func (p *paper) goes() bool {
	if p.armed == 0 {
		p.down = true
	}
	if p.armed >= 0 {
		p.armed--
	}
	return p.down
}

// call is something that a disk is told: kind is c, a, s, m (rename), r, A (Arm)
// or U (Up).
type call struct {
	kind     byte
	name, to string // to is also what is appended
	n        int
	keep     []int
}

// on does a call on a disk.
func (c call) on(d *disk.Disk) api.Errno {
	switch c.kind {
	case 'c':
		return d.Create(c.name)
	case 'a':
		return d.Append(c.name, []byte(c.to))
	case 's':
		return d.Sync(c.name)
	case 'm':
		return d.Rename(c.name, c.to)
	case 'r':
		return d.Remove(c.name)
	case 'A':
		d.Arm(c.n)
	case 'U':
		d.Up(c.keep)
	}
	return api.OK
}

// onPaper does it on paper, where all names are names.
func (c call) onPaper(p paper) (paper, api.Errno) {
	p.files = slices.Clone(p.files)
	if c.kind == 'A' {
		p.armed = c.n
		return p, api.OK
	}
	if c.kind == 'U' {
		return p.up(c.keep), api.OK
	}
	i, there := p.at(c.name)
	switch {
	case p.down:
		return p, api.ErrDown
	case c.kind == 'c' && there:
		return p, api.ErrExist
	case c.kind != 'c' && !there:
		return p, api.ErrNone
	case c.kind == 'a' && len(c.to) > p.free():
		return p, api.ErrFull
	}
	if p.goes() {
		if c.kind == 'a' {
			p.files[i].loose += c.to
		}
		return p, api.ErrDown
	}
	switch c.kind {
	case 'c':
		p.files = slices.Insert(p.files, i, page{name: c.name})
	case 'a':
		p.files[i].loose += c.to
	case 's':
		p.files[i].kept += p.files[i].loose
		p.files[i].loose = ""
	case 'm':
		f := p.files[i]
		f.name = c.to
		p.files = slices.DeleteFunc(p.files, func(f page) bool { return f.name == c.name || f.name == c.to })
		j, _ := p.at(c.to)
		p.files = slices.Insert(p.files, j, f)
	case 'r':
		p.files = slices.Delete(p.files, i, i+1)
	}
	return p, api.OK
}

// up is what is there behind Up.
func (p paper) up(keep []int) paper {
	if !p.down {
		return p
	}
	p.down, p.armed = false, -1
	for i := range p.files {
		f, n := &p.files[i], 0
		// Counted down step by step, so that it needs no rule of the program's.
		for left := number(keep, i); left > 0; left-- {
			if n++; n > len(f.loose) {
				n = 0
			}
		}
		f.kept, f.loose = f.kept+f.loose[:n], ""
	}
	return p
}

// number is the number that keep has for the file i: how far it is from 0, or,
// below 0, from -1.
func number(keep []int, i int) int {
	switch {
	case i >= len(keep):
		return 0
	case keep[i] >= 0:
		return keep[i]
	}
	n := 0
	for m := keep[i]; m != -1; m++ {
		n++
	}
	return n
}

// same tells how a disk is another one than it is on paper: not, if the text is
// empty.
func same(d *disk.Disk, p paper) string {
	if d.Down() != p.down || d.Free() != p.free() {
		return fmt.Sprintf("%t, %d; not %t, %d", d.Down(), d.Free(), p.down, p.free())
	}
	var names []string
	for _, f := range p.files {
		b, errno := d.Read(f.name)
		switch {
		case p.down && (errno != api.ErrDown || len(b) > 0):
			return fmt.Sprintf("Read of %s: %q, %d, and the power is gone", f.name, b, errno)
		case !p.down && (errno != api.OK || string(b) != f.kept+f.loose):
			return fmt.Sprintf("Read of %s: %q, %d; not %q", f.name, b, errno, f.kept+f.loose)
		case !p.down:
			names = append(names, f.name)
		}
	}
	if l := d.List(); !slices.Equal(l, names) {
		return fmt.Sprintf("List: %q, not %q", l, names)
	}
	return ""
}

// run does calls on a new disk and on paper, and tells what is other.
func run(room int, l []call) string {
	d, p := disk.New(room), paper{room: room, armed: -1}
	for i, c := range l {
		var errno api.Errno
		p, errno = c.onPaper(p)
		if got := c.on(d); got != errno {
			return fmt.Sprintf("%d of %v: %d, not %d", i, l, got, errno)
		}
		if i == len(l)-1 {
			if other := same(d, p); other != "" {
				return fmt.Sprintf("%d of %v: %s", i, l, other)
			}
		}
	}
	return ""
}

// P8.1 to P8.3: all rows of a few calls, behind some beginnings.
func TestAllCalls(t *testing.T) {
	calls := []call{
		{kind: 'c', name: "a"}, {kind: 'c', name: "b"}, {kind: 'a', name: "a", to: "xy"}, {kind: 'a', name: "b", to: "z"},
		{kind: 's', name: "a"}, {kind: 's', name: "b"}, {kind: 'm', name: "a", to: "b"}, {kind: 'm', name: "b", to: "a"}, {kind: 'm', name: "a", to: "a"},
		{kind: 'r', name: "a"}, {kind: 'r', name: "b"},
		{kind: 'A', n: 0}, {kind: 'A', n: 1}, {kind: 'A', n: -1},
		{kind: 'U', keep: []int{1, 2}}, {kind: 'U', keep: []int{-4}},
	}
	for _, c := range []struct {
		ahead []call
		many  int
	}{
		{nil, 5},
		{[]call{{kind: 'c', name: "a"}, {kind: 'a', name: "a", to: "pq"}}, 4},
		{[]call{{kind: 'c', name: "a"}, {kind: 'a', name: "a", to: "p"}, {kind: 's', name: "a"}, {kind: 'a', name: "a", to: "qr"}, {kind: 'c', name: "b"}, {kind: 'a', name: "b", to: "u"}}, 4},
		{[]call{{kind: 'c', name: "b"}, {kind: 'a', name: "b", to: "p"}, {kind: 'A', n: 0}, {kind: 'a', name: "b", to: "qr"}}, 4},
	} {
		var all func(l []call, left int)
		all = func(l []call, left int) {
			if other := run(7, l); other != "" {
				t.Fatal(other)
			}
			if left == 0 {
				return
			}
			for _, one := range calls {
				all(append(l[:len(l):len(l)], one), left-1)
			}
		}
		all(c.ahead, c.many)
	}
}

// P8.1 to P8.3: long rows of calls, of more files.
func TestLongRows(t *testing.T) {
	r := rand.New(rand.NewPCG(8, 1))
	name := func() string { return string([]byte{"ab.-0"[r.IntN(5)], "xy9"[r.IntN(3)]}) }
	for range 200 {
		d, p := disk.New(60), paper{room: 60, armed: -1}
		for range 400 {
			c := call{kind: "ccaaaassmrAU"[r.IntN(12)], name: name(), to: name(), n: r.IntN(40) - 2}
			for range r.IntN(9) {
				c.keep = append(c.keep, r.IntN(40)-20)
			}
			var errno api.Errno
			p, errno = c.onPaper(p)
			if got := c.on(d); got != errno {
				t.Fatalf("%v: %d, not %d", c, got, errno)
			}
			if other := same(d, p); other != "" {
				t.Fatalf("%v: %s", c, other)
			}
		}
	}
}

// R5: what is told hangs on no order of a map's keys.
func TestOrders(t *testing.T) {
	for range 50 {
		d := disk.New(1000)
		var names []string
		var keep []int
		for i := range 30 {
			name := fmt.Sprintf("f%02d", i)
			names, keep = append(names, name), append(keep, i%5)
			want(t, d.Create(name), api.OK)
			want(t, d.Append(name, []byte("loose"[:4])), api.OK)
		}
		d.Arm(0)
		want(t, d.Sync("f00"), api.ErrDown)
		d.Up(keep)
		if !slices.Equal(d.List(), names) {
			t.Fatal(d.List())
		}
		for i, name := range names {
			if b, _ := d.Read(name); string(b) != "loose"[:i%5] {
				t.Fatalf("%s: %q, not %d bytes", name, b, i%5)
			}
		}
	}
}

// P8.4: wherever the power goes, and whatever is kept: what was synced is there,
// and a beginning of what was loose, at each length that there may be.
func TestWhatIsLeft(t *testing.T) {
	parts := []string{"one", "", "three", "4", "fifth"}
	// A bit of many tells whether a part is synced once it is appended.
	for many := range 1 << len(parts) {
		deeds := 0
		for cut := 0; cut <= deeds; cut++ {
			deeds = cutAt(t, parts, many, cut)
		}
	}
}

// cutAt appends parts, lets the power go at the deed cut, tries all that may be
// kept, and tells how many deeds there are.
func cutAt(t *testing.T, parts []string, many, cut int) int {
	t.Helper()
	seen, deeds := map[string]bool{}, 0
	kept, all := "", ""
	for keep := range 30 {
		d := disk.New(100)
		want(t, d.Create("a"), api.OK)
		d.Arm(cut)
		kept, all, deeds = "", "", 0
		for i, part := range parts {
			if !d.Down() {
				all += part
			}
			d.Append("a", []byte(part))
			deeds++
			if many>>i&1 == 1 {
				if d.Sync("a") == api.OK {
					kept = all
				}
				deeds++
			}
		}
		if !d.Down() {
			want(t, d.Create("b"), api.ErrDown)
		}
		d.Up([]int{keep})
		b, errno := d.Read("a")
		if errno != api.OK || !strings.HasPrefix(string(b), kept) || !strings.HasPrefix(all, string(b)) {
			t.Fatalf("%b, cut at %d, %d kept: %q, %d; synced is %q, all is %q", many, cut, keep, b, errno, kept, all)
		}
		seen[string(b)] = true
	}
	if len(seen) != len(all)-len(kept)+1 {
		t.Fatalf("%b, cut at %d: %d lengths between %q and %q", many, cut, len(seen), kept, all)
	}
	return deeds
}

// P8.4: what was synced is there behind power cuts at other files' deeds, and
// behind a Rename that was told OK under its other name.
func TestSyncedStays(t *testing.T) {
	d := disk.New(100)
	want(t, d.Create("new"), api.OK)
	want(t, d.Append("new", []byte("state")), api.OK)
	want(t, d.Sync("new"), api.OK)
	for cut, do := range []func() api.Errno{
		func() api.Errno { return d.Create("log") },
		func() api.Errno { return d.Remove("new") },
		func() api.Errno { return d.Rename("new", "log") },
		func() api.Errno { return d.Append("new", []byte("torn")) },
		func() api.Errno { return d.Sync("new") },
		func() api.Errno { return d.Rename("new", "new") },
	} {
		d.Arm(0)
		want(t, do(), api.ErrDown)
		d.Up(nil)
		wantFiles(t, d, 95, "new", "state")
		if t.Failed() {
			t.Fatal("behind the cut number", cut)
		}
	}
	want(t, d.Create("log"), api.OK)
	want(t, d.Append("log", []byte("old")), api.OK)
	want(t, d.Sync("log"), api.OK)
	want(t, d.Rename("new", "log"), api.OK)
	d.Arm(0)
	want(t, d.Create("new"), api.ErrDown)
	d.Up(nil)
	wantFiles(t, d, 95, "log", "state")
}
