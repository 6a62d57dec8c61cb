package disk_test

import (
	"math"
	"slices"
	"strings"
	"testing"

	"pantograph/api"
	"pantograph/disk"
)

// want checks what a call told.
func want(t *testing.T, got, errno api.Errno) {
	t.Helper()
	if got != errno {
		t.Errorf("told %d, not %d", got, errno)
	}
}

// wantFiles checks what files there are, a name and its bytes each, and what
// room is left.
func wantFiles(t *testing.T, d *disk.Disk, free int, l ...string) {
	t.Helper()
	var names []string
	for i := 0; i < len(l); i += 2 {
		names = append(names, l[i])
		if b, errno := d.Read(l[i]); errno != api.OK || string(b) != l[i+1] {
			t.Errorf("Read of %q: %q, %d; not %q", l[i], b, errno, l[i+1])
		}
	}
	if got := d.List(); !slices.Equal(got, names) {
		t.Errorf("List: %q, not %q", got, names)
	}
	if d.Free() != free {
		t.Errorf("Free: %d, not %d", d.Free(), free)
	}
	if d.Down() {
		t.Error("the power is gone")
	}
}

// wantDown checks that the power is gone, and what every call tells then.
func wantDown(t *testing.T, d *disk.Disk, free int) {
	t.Helper()
	if !d.Down() {
		t.Error("the power is there")
	}
	for _, name := range []string{"a", "b", "none", "", "A"} {
		want(t, d.Create(name), api.ErrDown)
		want(t, d.Append(name, nil), api.ErrDown)
		want(t, d.Append(name, []byte("more than there is room for")), api.ErrDown)
		want(t, d.Sync(name), api.ErrDown)
		want(t, d.Rename(name, "c"), api.ErrDown)
		want(t, d.Rename("a", name), api.ErrDown)
		want(t, d.Remove(name), api.ErrDown)
		b, errno := d.Read(name)
		want(t, errno, api.ErrDown)
		if len(b) != 0 {
			t.Errorf("Read of %q: %q beside an error", name, b)
		}
	}
	if l := d.List(); len(l) != 0 {
		t.Errorf("List: %q", l)
	}
	if d.Free() != free {
		t.Errorf("Free: %d, not %d", d.Free(), free)
	}
}

// made is a disk of room 100 with a, of "kept" and "loose", and b, of "else",
// that is loose.
func made(t *testing.T) *disk.Disk {
	t.Helper()
	d := disk.New(100)
	for _, errno := range []api.Errno{
		d.Create("a"), d.Append("a", []byte("kept")), d.Sync("a"), d.Append("a", []byte("loose")),
		d.Create("b"), d.Append("b", []byte("else")),
	} {
		want(t, errno, api.OK)
	}
	return d
}

// P8.1: a new disk.
func TestNew(t *testing.T) {
	for _, c := range []struct{ room, free int }{
		{0, 0}, {1, 1}, {65536, 65536}, {math.MaxInt, math.MaxInt}, {-1, 0}, {-65536, 0}, {math.MinInt, 0},
	} {
		d := disk.New(c.room)
		wantFiles(t, d, c.free)
		d.Up(nil)
		d.Up([]int{1, 2})
		wantFiles(t, d, c.free)
		// Files without bytes need no room, and the power goes at no deed.
		for range 20 {
			want(t, d.Create("a"), api.OK)
			want(t, d.Append("a", nil), api.OK)
			want(t, d.Sync("a"), api.OK)
			want(t, d.Rename("a", "b"), api.OK)
			wantFiles(t, d, c.free, "b", "")
			want(t, d.Remove("b"), api.OK)
		}
		wantFiles(t, d, c.free)
	}
	one, two := disk.New(5), disk.New(5)
	want(t, one.Create("a"), api.OK)
	one.Arm(0)
	want(t, one.Append("a", []byte("x")), api.ErrDown)
	wantFiles(t, two, 5)
}

// wantName checks whether a text is taken as a name, by all calls alike.
func wantName(t *testing.T, name string, is bool) {
	t.Helper()
	errno := api.ErrName
	if is {
		errno = api.ErrNone
	}
	d := disk.New(0)
	_, read := d.Read(name)
	for i, got := range []api.Errno{d.Append(name, nil), d.Append(name, []byte("x")), d.Sync(name), d.Rename(name, "to"), d.Remove(name), read} {
		if got != errno {
			t.Errorf("%q, call %d: %d, not %d", name, i, got, errno)
		}
	}
	errno = api.ErrName
	if is {
		errno = api.OK
	}
	want(t, d.Create("from"), api.OK)
	if got := d.Rename("from", name); got != errno {
		t.Errorf("Rename to %q: %d, not %d", name, got, errno)
	}
	other := disk.New(0)
	if got := other.Create(name); got != errno {
		t.Errorf("Create of %q: %d, not %d", name, got, errno)
	}
	if is {
		wantFiles(t, d, 0, name, "")
		wantFiles(t, other, 0, name, "")
	} else {
		wantFiles(t, d, 0, "from", "")
		wantFiles(t, other, 0)
	}
}

// P8.1: what is a name, and what is none.
func TestNames(t *testing.T) {
	const good = "abcdefghijklmnopqrstuvwxyz0123456789.-"
	for c := range 256 {
		one := string([]byte{byte(c)})
		is := strings.Contains(good, one)
		wantName(t, one, is)
		wantName(t, "log"+one, is)
		wantName(t, one+"log", is)
		wantName(t, strings.Repeat("z", 19)+one, is)
	}
	for _, c := range good {
		for n := range 40 {
			wantName(t, strings.Repeat(string(c), n), n >= 1 && n <= 20)
		}
	}
	for _, name := range []string{"log", "new", ".", "..", "-", "0", "a.b-9", "-.-.-.-.-.-.-.-.-.-."} {
		wantName(t, name, true)
	}
	for _, name := range []string{"", " ", "a b", "a/b", "a_b", "Log", "loG", "ä", "ạ", "ａ", "a\xff", "a\u00ad", "a\x00", "\ufffd", "\U0001d4b6", strings.Repeat("a", 5000)} {
		wantName(t, name, false)
	}
}

// P8.1: which error is told where several apply; nothing is changed by any.
func TestErrors(t *testing.T) {
	d := made(t)
	unchanged := func() {
		t.Helper()
		wantFiles(t, d, 87, "a", "keptloose", "b", "else")
	}
	great := make([]byte, 88)
	for _, c := range []struct{ got, errno api.Errno }{
		{d.Create("a"), api.ErrExist}, {d.Create("b"), api.ErrExist}, {d.Create(""), api.ErrName}, {d.Create("A"), api.ErrName},
		{d.Append("a", great), api.ErrFull}, {d.Append("c", great), api.ErrNone}, {d.Append("C", great), api.ErrName}, {d.Append("c", nil), api.ErrNone},
		{d.Sync("c"), api.ErrNone}, {d.Sync("C"), api.ErrName},
		{d.Rename("c", "a"), api.ErrNone}, {d.Rename("c", "d"), api.ErrNone}, {d.Rename("c", "c"), api.ErrNone},
		{d.Rename("a", "A"), api.ErrName}, {d.Rename("c", "A"), api.ErrName}, {d.Rename("A", "a"), api.ErrName}, {d.Rename("A", "c"), api.ErrName}, {d.Rename("", ""), api.ErrName},
		{d.Remove("c"), api.ErrNone}, {d.Remove("C"), api.ErrName},
	} {
		want(t, c.got, c.errno)
		unchanged()
	}
	for name, errno := range map[string]api.Errno{"c": api.ErrNone, "C": api.ErrName, "": api.ErrName} {
		if b, got := d.Read(name); got != errno || len(b) != 0 {
			t.Errorf("Read of %q: %q, %d", name, b, got)
		}
	}
	unchanged()
	// What was loose is so still.
	if got := left(t, d, "a"); got != "kept" {
		t.Errorf("%q is left", got)
	}
}

// P8.1, P8.2: room, up to the last byte.
func TestRoom(t *testing.T) {
	d := disk.New(10)
	want(t, d.Create("a"), api.OK)
	want(t, d.Create("b"), api.OK)
	want(t, d.Append("a", make([]byte, 11)), api.ErrFull)
	want(t, d.Append("a", []byte("123456")), api.OK)
	want(t, d.Append("b", []byte("12345")), api.ErrFull)
	want(t, d.Append("b", []byte("1234")), api.OK)
	wantFiles(t, d, 0, "a", "123456", "b", "1234")
	want(t, d.Append("b", []byte("5")), api.ErrFull)
	want(t, d.Append("b", nil), api.OK)
	want(t, d.Append("b", []byte{}), api.OK)
	want(t, d.Create("c"), api.OK)
	want(t, d.Sync("a"), api.OK)
	wantFiles(t, d, 0, "a", "123456", "b", "1234", "c", "")
	// The bytes of a file that is gone leave room, whatever takes it away.
	want(t, d.Rename("c", "b"), api.OK)
	wantFiles(t, d, 4, "a", "123456", "b", "")
	want(t, d.Append("b", []byte("12345")), api.ErrFull)
	want(t, d.Remove("a"), api.OK)
	wantFiles(t, d, 10, "b", "")
	want(t, d.Append("b", []byte("1234567890")), api.OK)
	wantFiles(t, d, 0, "b", "1234567890")
	d.Arm(0)
	want(t, d.Sync("b"), api.ErrDown)
	wantDown(t, d, 0)
	d.Up([]int{3})
	wantFiles(t, d, 7, "b", "123")
}

// P8.1, P8.3: there is no room for a deed that is refused, and the power does not
// go at it; bytes that come as the power goes take room.
func TestRoomArmed(t *testing.T) {
	d := disk.New(3)
	want(t, d.Create("a"), api.OK)
	d.Arm(0)
	want(t, d.Append("a", []byte("1234")), api.ErrFull)
	wantFiles(t, d, 3, "a", "")
	want(t, d.Append("a", []byte("12")), api.ErrDown)
	wantDown(t, d, 1)
	d.Up([]int{2})
	wantFiles(t, d, 1, "a", "12")
	want(t, d.Append("a", []byte("34")), api.ErrFull)
	want(t, d.Append("a", []byte("3")), api.OK)
	wantFiles(t, d, 0, "a", "123")
}

// P8.2: what each deed does.
func TestDeeds(t *testing.T) {
	d := made(t)
	want(t, d.Create("c"), api.OK)
	want(t, d.Append("c", []byte{0, 255, 128, '\n'}), api.OK)
	wantFiles(t, d, 83, "a", "keptloose", "b", "else", "c", "\x00\xff\x80\n")
	want(t, d.Append("a", []byte("r")), api.OK)
	want(t, d.Append("b", []byte("where")), api.OK)
	wantFiles(t, d, 77, "a", "keptlooser", "b", "elsewhere", "c", "\x00\xff\x80\n")
	want(t, d.Rename("c", "0"), api.OK)
	wantFiles(t, d, 77, "0", "\x00\xff\x80\n", "a", "keptlooser", "b", "elsewhere")
	want(t, d.Rename("a", "b"), api.OK)
	wantFiles(t, d, 86, "0", "\x00\xff\x80\n", "b", "keptlooser")
	want(t, d.Create("a"), api.OK)
	wantFiles(t, d, 86, "0", "\x00\xff\x80\n", "a", "", "b", "keptlooser")
	want(t, d.Remove("b"), api.OK)
	want(t, d.Remove("0"), api.OK)
	want(t, d.Remove("a"), api.OK)
	wantFiles(t, d, 100)
	// A file that is made anew has nothing of the one that was there.
	want(t, d.Create("a"), api.OK)
	wantFiles(t, d, 100, "a", "")
}

// P8.2: names rise, byte by byte.
func TestList(t *testing.T) {
	names := []string{"-", "--", ".", ".0", "0", "00", "1", "9z", "a", "a-", "a-b", "a.", "a.b", "a0", "aa", "ab", "b", "z", "zz"}
	for shift := range names {
		d := disk.New(0)
		for i := range names {
			want(t, d.Create(names[(i*7+shift)%len(names)]), api.OK)
		}
		if got := d.List(); !slices.Equal(got, names) {
			t.Fatalf("%q, not %q", got, names)
		}
	}
}

// left is what is left of a file behind a power cut of which nothing loose is
// kept.
func left(t *testing.T, d *disk.Disk, name string) string {
	t.Helper()
	d.Arm(0)
	want(t, d.Create("cut"), api.ErrDown)
	d.Up(nil)
	b, errno := d.Read(name)
	want(t, errno, api.OK)
	return string(b)
}

// P8.2: Sync keeps all bytes of its file, and of no other one.
func TestSync(t *testing.T) {
	for _, c := range []struct {
		sync []string
		a, b string
	}{
		{nil, "kept", ""}, {[]string{"a"}, "keptloose", ""}, {[]string{"b"}, "kept", "else"},
		{[]string{"b", "a", "b"}, "keptloose", "else"}, {[]string{"a", "a"}, "keptloose", ""},
	} {
		d := made(t)
		for _, name := range c.sync {
			want(t, d.Sync(name), api.OK)
		}
		if got := left(t, d, "a"); got != c.a {
			t.Errorf("%q: %q, not %q", c.sync, got, c.a)
		}
		if got := left(t, d, "b"); got != c.b {
			t.Errorf("%q: %q, not %q", c.sync, got, c.b)
		}
	}
}

// P8.2: a file that is renamed has the bytes that were kept, and those that were
// loose, as they were; the other one's are gone, kept and loose.
func TestRename(t *testing.T) {
	for _, c := range []struct {
		from, to     string
		all, of, off string // all, and what is left of it; the name that is gone
	}{
		{"a", "b", "keptloose", "kept", "a"}, {"a", "c", "keptloose", "kept", "a"}, {"b", "a", "else", "", "b"}, {"b", "0", "else", "", "b"},
		{"a", "a", "keptloose", "kept", ""}, {"b", "b", "else", "", ""},
	} {
		d := made(t)
		want(t, d.Rename(c.from, c.to), api.OK)
		if b, errno := d.Read(c.to); errno != api.OK || string(b) != c.all {
			t.Errorf("%s to %s: %q, %d", c.from, c.to, b, errno)
		}
		if c.off != "" {
			_, errno := d.Read(c.off)
			want(t, errno, api.ErrNone)
		} else {
			wantFiles(t, d, 87, "a", "keptloose", "b", "else")
		}
		if got := left(t, d, c.to); got != c.of {
			t.Errorf("%s to %s: %q is left, not %q", c.from, c.to, got, c.of)
		}
	}
}

// deeds is one deed of each kind, in an order in which all of them can be done on
// what made makes, and what the files are behind each.
func deeds() []struct {
	do    func(d *disk.Disk) api.Errno
	files []string
} {
	return []struct {
		do    func(d *disk.Disk) api.Errno
		files []string
	}{
		{func(d *disk.Disk) api.Errno { return d.Create("c") }, []string{"a", "keptloose", "b", "else", "c", ""}},
		{func(d *disk.Disk) api.Errno { return d.Append("c", []byte("xy")) }, []string{"a", "keptloose", "b", "else", "c", "xy"}},
		{func(d *disk.Disk) api.Errno { return d.Sync("c") }, []string{"a", "keptloose", "b", "else", "c", "xy"}},
		{func(d *disk.Disk) api.Errno { return d.Append("a", nil) }, []string{"a", "keptloose", "b", "else", "c", "xy"}},
		{func(d *disk.Disk) api.Errno { return d.Sync("a") }, []string{"a", "keptloose", "b", "else", "c", "xy"}},
		{func(d *disk.Disk) api.Errno { return d.Rename("c", "c") }, []string{"a", "keptloose", "b", "else", "c", "xy"}},
		{func(d *disk.Disk) api.Errno { return d.Rename("c", "b") }, []string{"a", "keptloose", "b", "xy"}},
		{func(d *disk.Disk) api.Errno { return d.Remove("a") }, []string{"b", "xy"}},
	}
}

// P8.3: the power goes at the deed of that number, be it of any kind; of Append
// alone there is something behind it.
func TestArm(t *testing.T) {
	all := deeds()
	behind := [][]string{ // the files behind the cut at each deed, with all that is loose kept
		{"a", "keptloose", "b", "else"},
		{"a", "keptloose", "b", "else", "c", "xy"},
		{"a", "keptloose", "b", "else", "c", "xy"},
		{"a", "keptloose", "b", "else", "c", "xy"},
		{"a", "keptloose", "b", "else", "c", "xy"},
		{"a", "keptloose", "b", "else", "c", "xy"},
		{"a", "keptloose", "b", "else", "c", "xy"},
		{"a", "keptloose", "b", "xy"},
	}
	loose := [][]int{{5, 4}, {5, 4, 2}, {5, 4, 2}, {5, 4}, {5, 4}, {0, 4}, {0, 4}, {0, 0}}
	for n := range all {
		d := made(t)
		d.Arm(n)
		for i := range n {
			want(t, all[i].do(d), api.OK)
			if d.Down() {
				t.Fatalf("the power goes at %d, not at %d", i, n)
			}
		}
		want(t, all[n].do(d), api.ErrDown)
		free := 100
		for i := 1; i < len(behind[n]); i += 2 {
			free -= len(behind[n][i])
		}
		wantDown(t, d, free)
		d.Up(loose[n])
		wantFiles(t, d, free, behind[n]...)
		// Nothing is armed any more.
		for range 9 {
			want(t, d.Sync("b"), api.OK)
		}
	}
	for _, n := range []int{8, 9, math.MaxInt, -1, -2, math.MinInt, math.MinInt + 1} {
		d := made(t)
		d.Arm(n)
		for i, one := range all {
			if errno := one.do(d); errno != api.OK {
				t.Errorf("Arm of %d: %d at %d", n, errno, i)
			}
		}
		wantFiles(t, d, 98, all[7].files...)
	}
}

// P8.2, P8.3: what each deed leaves where it is done.
func TestDeedsInOrder(t *testing.T) {
	d := made(t)
	for i, one := range deeds() {
		want(t, one.do(d), api.OK)
		free := 100
		for j := 1; j < len(one.files); j += 2 {
			free -= len(one.files[j])
		}
		wantFiles(t, d, free, one.files...)
		if t.Failed() {
			t.Fatal("behind the deed number", i)
		}
	}
}

// P8.3: what is refused, and what only looks, is no deed.
func TestArmCountsDeeds(t *testing.T) {
	d := made(t)
	d.Arm(2)
	none := func() {
		for range 5 {
			want(t, d.Create("a"), api.ErrExist)
			want(t, d.Create("A"), api.ErrName)
			want(t, d.Append("a", make([]byte, 99)), api.ErrFull)
			want(t, d.Append("x", nil), api.ErrNone)
			want(t, d.Sync("x"), api.ErrNone)
			want(t, d.Rename("x", "y"), api.ErrNone)
			want(t, d.Rename("a", "Y"), api.ErrName)
			want(t, d.Remove("x"), api.ErrNone)
			d.Read("a")
			d.List()
			d.Free()
			d.Down()
			d.Up([]int{1, 1})
		}
	}
	none()
	want(t, d.Append("a", nil), api.OK)
	none()
	want(t, d.Rename("b", "b"), api.OK)
	none()
	wantFiles(t, d, 87, "a", "keptloose", "b", "else")
	want(t, d.Sync("a"), api.ErrDown)
	wantDown(t, d, 87)
}

// P8.3: the last Arm holds; below 0 nothing is armed; nothing is behind Up.
func TestArmAgain(t *testing.T) {
	d := made(t)
	d.Arm(0)
	d.Arm(1)
	want(t, d.Sync("a"), api.OK)
	d.Arm(1)
	want(t, d.Sync("a"), api.OK)
	d.Arm(-1)
	for range 5 {
		want(t, d.Sync("a"), api.OK)
	}
	d.Arm(5)
	d.Arm(0)
	want(t, d.Sync("b"), api.ErrDown)
	wantDown(t, d, 87)
	for _, n := range []int{0, 1, 7, -1} {
		d.Arm(n)
		wantDown(t, d, 87)
	}
	d.Arm(0)
	d.Up([]int{0, 4})
	wantFiles(t, d, 87, "a", "keptloose", "b", "else")
	for range 5 {
		want(t, d.Sync("b"), api.OK)
	}
}

// P8.3: while the power is there Up does nothing: loose bytes stay loose, and
// what is armed stays armed.
func TestUpWhileUp(t *testing.T) {
	d := made(t)
	d.Arm(1)
	for _, keep := range [][]int{nil, {0}, {5, 4}, {2, 2, 2}, {-1}} {
		d.Up(keep)
		wantFiles(t, d, 87, "a", "keptloose", "b", "else")
	}
	want(t, d.Append("b", []byte("where")), api.OK)
	d.Up([]int{5, 9})
	want(t, d.Append("b", []byte("!")), api.ErrDown)
	d.Up(nil)
	wantFiles(t, d, 96, "a", "kept", "b", "")
	d.Up([]int{1, 1})
	wantFiles(t, d, 96, "a", "kept", "b", "")
}

// P8.3: how many loose bytes each number keeps.
func TestKeep(t *testing.T) {
	for _, c := range []struct{ n, of3, of0, of4 int }{
		{0, 0, 0, 0}, {1, 1, 0, 1}, {2, 2, 0, 2}, {3, 3, 0, 3}, {4, 0, 0, 4}, {5, 1, 0, 0}, {7, 3, 0, 2}, {8, 0, 0, 3},
		{-1, 0, 0, 0}, {-2, 1, 0, 1}, {-3, 2, 0, 2}, {-4, 3, 0, 3}, {-5, 0, 0, 4}, {-6, 1, 0, 0},
		// 2^63 - 1 is 3 modulo 4, and 2 modulo 5; -2^63 is as far from -1.
		{math.MaxInt, 3, 0, 2}, {math.MinInt, 3, 0, 2}, {math.MaxInt - 1, 2, 0, 1}, {math.MinInt + 1, 2, 0, 1},
	} {
		d := disk.New(1000)
		// Made in another order than that of the names.
		for _, name := range []string{"d", "b", "c", "a"} {
			want(t, d.Create(name), api.OK)
		}
		want(t, d.Append("a", []byte("1")), api.OK)
		want(t, d.Sync("a"), api.OK)
		want(t, d.Append("a", []byte("xyz")), api.OK)
		want(t, d.Append("b", []byte("22")), api.OK)
		want(t, d.Sync("b"), api.OK)
		want(t, d.Append("c", []byte("tuv")), api.OK)
		d.Arm(0)
		want(t, d.Append("c", []byte("w")), api.ErrDown)
		keep := []int{c.n, c.n, c.n, c.n, c.n, c.n}
		d.Up(keep)
		wantFiles(t, d, 1000-3-c.of3-c.of4, "a", "1"+"xyz"[:c.of3], "b", "22", "c", "tuvw"[:c.of4], "d", "")
		if c.of0 != 0 || slices.ContainsFunc(keep, func(n int) bool { return n != c.n }) {
			t.Error("what was handed in is changed", keep)
		}
	}
}

// P8.3: the number that each file has; files that have nothing loose have one
// too, and 0 is the number of those behind the last one.
func TestKeepOrder(t *testing.T) {
	for _, c := range []struct {
		keep       []int
		a, b, c, d string
	}{
		{nil, "", "kk", "", ""}, {[]int{}, "", "kk", "", ""}, {[]int{1}, "x", "kk", "", ""}, {[]int{0, 1}, "", "kk", "", ""}, {[]int{1, 2, 3}, "x", "kk", "xxx", ""},
		{[]int{2, 0, 1, 3}, "xx", "kk", "x", "xxx"}, {[]int{0, 0, 0, 2, 3, 3, 3}, "", "kk", "", "xx"}, {[]int{-2, -9, -3, -4}, "x", "kk", "xx", "xxx"},
	} {
		d := disk.New(1000)
		for _, name := range []string{"c", "a", "d", "b"} {
			want(t, d.Create(name), api.OK)
			want(t, d.Append(name, []byte("xxx")), api.OK)
		}
		want(t, d.Remove("b"), api.OK)
		want(t, d.Create("e"), api.OK)
		want(t, d.Append("e", []byte("kk")), api.OK)
		want(t, d.Sync("e"), api.OK)
		// By the names as they are when the power comes back.
		want(t, d.Rename("e", "b"), api.OK)
		d.Arm(0)
		want(t, d.Remove("a"), api.ErrDown)
		d.Up(c.keep)
		wantFiles(t, d, 1000-len(c.a+c.b+c.c+c.d), "a", c.a, "b", c.b, "c", c.c, "d", c.d)
	}
}

// P8.3: what Up keeps is kept from then on, and what it does not keep is gone.
func TestKeptBehindUp(t *testing.T) {
	d := made(t)
	d.Arm(0)
	want(t, d.Create("c"), api.ErrDown)
	d.Up([]int{2, 3})
	wantFiles(t, d, 91, "a", "keptlo", "b", "els")
	want(t, d.Append("a", []byte("st")), api.OK)
	wantFiles(t, d, 89, "a", "keptlost", "b", "els")
	d.Arm(0)
	want(t, d.Create("c"), api.ErrDown)
	d.Up([]int{0, 0})
	wantFiles(t, d, 91, "a", "keptlo", "b", "els")
	d.Arm(0)
	want(t, d.Append("b", []byte("ewhere")), api.ErrDown)
	d.Up([]int{4, 1})
	wantFiles(t, d, 90, "a", "keptlo", "b", "else")
}

// The document's example.
func TestExample(t *testing.T) {
	d := disk.New(100)
	want(t, d.Create("a"), api.OK)
	want(t, d.Append("a", []byte("x")), api.OK)
	want(t, d.Sync("a"), api.OK)
	want(t, d.Append("a", []byte("yz")), api.OK)
	d.Arm(0)
	want(t, d.Append("a", []byte("w")), api.ErrDown)
	wantDown(t, d, 96)
	d.Up([]int{2})
	wantFiles(t, d, 97, "a", "xyz")
}

// R4: what is handed in is not kept, and what is told is new.
func TestMemory(t *testing.T) {
	d := disk.New(100)
	want(t, d.Create("a"), api.OK)
	want(t, d.Create("b"), api.OK)
	b := append(make([]byte, 0, 50), "first"...)
	want(t, d.Append("a", b), api.OK)
	want(t, d.Append("b", b), api.OK)
	clear(b)
	wantFiles(t, d, 90, "a", "first", "b", "first")
	if spare := b[:cap(b)]; slices.ContainsFunc(spare, func(c byte) bool { return c != 0 }) {
		t.Error("spare room is changed", spare)
	}
	got, _ := d.Read("a")
	want(t, d.Append("a", []byte(" and more")), api.OK)
	copy(got[:cap(got)], "xxxxxxxxxxxxxxxxxxxxxxxx")
	wantFiles(t, d, 81, "a", "first and more", "b", "first")
	// What Up leaves shares nothing with what was read ahead of it.
	want(t, d.Sync("b"), api.OK)
	got, _ = d.Read("a")
	d.Arm(0)
	want(t, d.Append("a", []byte("!")), api.ErrDown)
	d.Up([]int{5})
	want(t, d.Append("a", []byte("ly")), api.OK)
	if string(got) != "first and more" {
		t.Errorf("what was read is changed: %q", got)
	}
	wantFiles(t, d, 88, "a", "firstly", "b", "first")
	l := d.List()
	l[0], l[1] = "no", "name"
	clear(append(l, "x"))
	wantFiles(t, d, 88, "a", "firstly", "b", "first")
}
