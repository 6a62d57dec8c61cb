package crc_test

import (
	"bytes"
	"hash/crc32"
	"math"
	"slices"
	"strings"
	"testing"

	"pantograph/api"
	"pantograph/crc"
)

// plain is b's check as the chapter's words say it, a bit at a time.
func plain(b []byte) int {
	n := uint32(math.MaxUint32)
	for _, c := range b {
		n ^= uint32(c)
		for range 8 {
			odd := n&1 == 1
			if n >>= 1; odd {
				n ^= 0xEDB88320
			}
		}
	}
	return int(^n)
}

// some is n bytes without an order that is to be seen.
func some(n int) []byte {
	b := make([]byte, n)
	x := uint32(n)*2654435761 + 12345
	for i := range b {
		x = x*1664525 + 1013904223
		b[i] = byte(x >> 24)
	}
	return b
}

// texts is bytes of many lengths: ordinary ones and the edges.
func texts() [][]byte {
	l := [][]byte{nil, {}, []byte("123456789"), []byte("a"), bytes.Repeat([]byte{0}, 40), bytes.Repeat([]byte{255}, 40)}
	for n := range 70 {
		l = append(l, some(n))
	}
	return append(l, some(255), some(256), some(257), some(4096), some(100001))
}

// P2.1: the checks of some known texts.
func TestSum(t *testing.T) {
	for _, c := range []struct {
		s    string
		want int
	}{
		{"", 0},
		{"123456789", 3421780262},
		{"a", 0xE8B7BE43},
		{"abc", 0x352441C2},
		{"The quick brown fox jumps over the lazy dog", 0x414FA339},
		{"\x00", 0xD202EF8D},
		{"\xff", 0xFF000000},
		{"\x00\x00\x00\x00", 0x2144DF1C},
		{"\xff\xff\xff\xff", 0xFFFFFFFF},
		{strings.Repeat("\x00", 32), 0x190A55AD},
		{strings.Repeat("\xff", 32), 0xFF6CAB0B},
	} {
		if n := crc.Sum([]byte(c.s)); n != c.want {
			t.Errorf("Sum(%q) = %d, not %d", c.s, n, c.want)
		}
	}
}

// P2.1: the check as the words say it, and as others make it, of each byte, of
// each two bytes, and of bytes of many lengths.
func TestSumPlain(t *testing.T) {
	same := func(b []byte) {
		n := crc.Sum(b)
		if n != plain(b) || n != int(crc32.ChecksumIEEE(b)) || n < 0 || n > math.MaxUint32 {
			t.Errorf("Sum of the %d bytes %.20v: %d, not %d", len(b), b, n, plain(b))
		}
	}
	for i := range 256 {
		same([]byte{byte(i)})
		for j := range 256 {
			same([]byte{byte(i), byte(j)})
		}
	}
	for _, b := range texts() {
		same(b)
	}
}

// P2.1: the check of more, wherever the bytes are cut, in two or in many.
func TestMore(t *testing.T) {
	for _, b := range texts() {
		want, step := plain(b), 1+len(b)/100
		for cut := 0; cut <= len(b); cut += step {
			if n := crc.More(crc.Sum(b[:cut]), b[cut:]); n != want {
				t.Errorf("%d bytes cut at %d: %d, not %d", len(b), cut, n, want)
			}
		}
		n := 0
		for part := range slices.Chunk(b, step) {
			n = crc.More(n, part)
		}
		if n != want {
			t.Errorf("%d bytes, %d at a time: %d, not %d", len(b), step, n, want)
		}
	}
}

// P2.1: nothing more is the same check.
func TestMoreOfNothing(t *testing.T) {
	for _, sum := range []int{0, 1, 3421780262, math.MaxInt32, math.MaxInt32 + 1, math.MaxUint32} {
		if n, m := crc.More(sum, nil), crc.More(sum, []byte{}); n != sum || m != sum {
			t.Error(sum, n, m)
		}
	}
}

// P2.1: of a sum that is none, its lowest 32 bits.
func TestMoreOfNoSum(t *testing.T) {
	for _, sum := range []int{0, 1, 2, 255, 3421780262, math.MaxInt32, 1 << 31, math.MaxUint32} {
		for _, high := range []int{1 << 32, 1 << 33, 5 << 40, 1 << 62, math.MinInt64, -1 << 32, -1 << 50} {
			for _, b := range [][]byte{nil, {0}, {255}, []byte("123456789"), some(300)} {
				n, want := crc.More(sum|high, b), crc.More(sum, b)
				if n != want || n < 0 || n > math.MaxUint32 {
					t.Errorf("More(%d, %.20v) = %d, not %d", sum|high, b, n, want)
				}
			}
		}
	}
	for sum, want := range map[int]int{-1: math.MaxUint32, math.MinInt64: 0, math.MaxInt64: math.MaxUint32, -2: math.MaxUint32 - 1, math.MinInt32: 1 << 31} {
		if n := crc.More(sum, nil); n != want {
			t.Errorf("More(%d, nil) = %d, not %d", sum, n, want)
		}
	}
}

// P2.2: what was put, byte by byte.
func TestPut(t *testing.T) {
	for _, c := range []struct{ b, own, want string }{
		{"", "", "\x00\x00\x00\x00"},
		{"", "123456789", "123456789\x26\x39\xf4\xcb"},
		{"x", "123456789", "x123456789\x26\x39\xf4\xcb"},
		{"123456789", "", "123456789\x00\x00\x00\x00"},
		{"\x00\xff", "a", "\x00\xffa\x43\xbe\xb7\xe8"},
		{"", "\xff", "\xff\x00\x00\x00\xff"},
	} {
		if b := crc.Put([]byte(c.b), []byte(c.own)); string(b) != c.want {
			t.Errorf("Put(%q, %q) = %q, not %q", c.b, c.own, b, c.want)
		}
	}
	if b := crc.Put(nil, nil); string(b) != "\x00\x00\x00\x00" {
		t.Error(b)
	}
	for _, own := range texts() {
		n := plain(own)
		check := []byte{byte(n), byte(n >> 8), byte(n >> 16), byte(n >> 24)}
		for _, b := range [][]byte{nil, {}, {7}, some(50)} {
			if got := crc.Put(b, own); !bytes.Equal(got, slices.Concat(b, own, check)) {
				t.Errorf("%d bytes behind %d", len(own), len(b))
			}
		}
	}
}

// P2.2, P2.3: what was put is taken; of what stands behind others, as it was
// put.
func TestTake(t *testing.T) {
	for _, own := range texts() {
		b, e := crc.Take(crc.Put(nil, own))
		if e != api.OK || !bytes.Equal(b, own) {
			t.Errorf("%d bytes: %d", len(own), e)
		}
		ahead := some(9)
		b, e = crc.Take(crc.Put(ahead, own)[len(ahead):])
		if e != api.OK || !bytes.Equal(b, own) {
			t.Errorf("%d bytes behind others: %d", len(own), e)
		}
		b, e = crc.Take(crc.Put(nil, crc.Put(nil, own)))
		if e != api.OK || !bytes.Equal(b, crc.Put(nil, own)) {
			t.Errorf("%d bytes, put twice: %d", len(own), e)
		}
	}
}

// refuse checks that b is not taken, but told e.
func refuse(t *testing.T, b []byte, e api.Errno) {
	t.Helper()
	if got, errno := crc.Take(b); len(got) != 0 || errno != e {
		t.Errorf("Take(%.30v) = %.30v, %d; not %d", b, got, errno, e)
	}
}

// P2.2: fewer than four bytes, whatever they are.
func TestTakeErrEnd(t *testing.T) {
	for _, b := range []string{"", "\x00", "\x00\x00", "\x00\x00\x00", "abc", "\xff\xff\xff", "\x8d\xef\x02"} {
		refuse(t, []byte(b), api.ErrEnd)
	}
	refuse(t, nil, api.ErrEnd)
}

// P2.2: another check, or the right one in another order, or cut off.
func TestTakeErrSum(t *testing.T) {
	for _, b := range []string{
		"\x00\x00\x00\x01", "\x01\x00\x00\x00", "\xff\xff\xff\xff", "abcd",
		"123456789\xcb\xf4\x39\x26", "123456789\xd9\xc6\x0b\x34", "123456780\x26\x39\xf4\xcb",
		"123456789\x26\x39\xf4\xcb\x00", "\x00123456789\x26\x39\xf4\xcb", "a\x00\x00\x00\x00",
		"213456789\x26\x39\xf4\xcb", "\x00\x00\x00\x00\x00",
	} {
		refuse(t, []byte(b), api.ErrSum)
	}
	for _, own := range texts() {
		b := crc.Put(nil, own)
		for i := range size {
			wrong := bytes.Clone(b)
			wrong[len(own)+i]++
			refuse(t, wrong, api.ErrSum)
		}
		if len(own) > 0 && len(own) < 70 {
			refuse(t, b[:len(b)-1], api.ErrSum)
		}
	}
}

// size is how many bytes a check has.
const size = 4

// P2.2, R4: nothing that is handed in is changed, its spare room neither, and
// what is answered is memory of its own.
func TestPutIsNew(t *testing.T) {
	room := some(40)
	was := bytes.Clone(room)
	for _, length := range []int{0, 1, 7} {
		for _, own := range [][]byte{nil, room[:3], room[2:9], room[length:], room[20:24]} {
			want := slices.Concat(was[:length], crc.Put(nil, own))
			first, second := crc.Put(room[:length], own), crc.Put(room[:length], own)
			clear(first[:cap(first)])
			if !bytes.Equal(second, want) || !bytes.Equal(room, was) {
				t.Errorf("Put behind %d bytes shares memory, or changed what was handed in", length)
			}
		}
	}
}

// P2.2, R4: the like of Take.
func TestTakeIsNew(t *testing.T) {
	for _, own := range [][]byte{nil, []byte("123456789"), some(100)} {
		b := crc.Put(nil, own)
		was := bytes.Clone(b)
		first, _ := crc.Take(b)
		second, _ := crc.Take(b)
		clear(first[:cap(first)])
		if !bytes.Equal(b, was) || !bytes.Equal(second, own) {
			t.Error("Take shares memory, or changed what was handed in")
		}
		clear(b)
		if !bytes.Equal(second, own) {
			t.Error("Take shares memory with what was handed in")
		}
	}
}

// P2.1, R4: Sum and More change nothing.
func TestSumChangesNothing(t *testing.T) {
	b := some(300)
	was := bytes.Clone(b)
	crc.Sum(b[:100])
	crc.More(5, b[100:200])
	if !bytes.Equal(b, was) {
		t.Error("what was handed in is changed")
	}
}

// turn changes the bits of b that stand from the place at on, by those of
// burst, the lowest one first.
func turn(b []byte, at int, burst uint32) {
	for ; burst != 0; burst >>= 1 {
		b[at/8] ^= byte(burst&1) << (at % 8)
		at++
	}
}

// bursts is changes of at most 32 bits, of which the first one is changed: all
// of them that have up to 10 bits, and of each greater width some.
func bursts() []uint32 {
	var l []uint32
	for n := uint32(1); n < 1<<10; n += 2 {
		l = append(l, n)
	}
	x := uint32(1)
	for width := 11; width <= 32; width++ {
		most := uint32(math.MaxUint32) >> (32 - width)
		first := uint32(1)<<(width-1) | 1
		// The divisor's own bits and their mirror are the likeliest to slip through.
		l = append(l, first, most, first|0xEDB88320&most, first|0x04C11DB7&most)
		for range 20 {
			x = x*1664525 + 1013904223
			l = append(l, first|x&most)
		}
	}
	return l
}

// P2.3: every burst, at every place, the check's own bytes too, is told.
func TestBurst(t *testing.T) {
	all := bursts()
	for _, length := range []int{0, 1, 2, 3, 4, 5, 9, 30} {
		b := crc.Put(nil, some(length))
		was := bytes.Clone(b)
		for at := range 8 * len(b) {
			for _, burst := range all {
				if uint64(burst)>>(8*len(b)-at) != 0 {
					continue
				}
				turn(b, at, burst)
				if got, e := crc.Take(b); len(got) != 0 || e != api.ErrSum {
					t.Fatalf("%d bytes, the bits %b at %d: %v, %d", length, burst, at, got, e)
				}
				turn(b, at, burst)
			}
		}
		if !bytes.Equal(b, was) {
			t.Fatal("the burst was not turned back")
		}
	}
}

// P2.3: the like in long bytes, at their beginning and their end.
func TestBurstInLong(t *testing.T) {
	b := crc.Put(nil, some(5000))
	last := 8*len(b) - 32
	for _, at := range []int{0, 1, 5, 8, 8 * 255, 8*256 + 3, 8*4096 - 1, last - 40, last - 3, last} {
		for _, burst := range []uint32{1, 3, 0x80000001, 0xEDB88321, 0x82608EDB | 1<<31, math.MaxUint32, 0x00010001, 0xFF} {
			turn(b, at, burst)
			refuse(t, b, api.ErrSum)
			turn(b, at, burst)
		}
	}
	if got, e := crc.Take(b); e != api.OK || !bytes.Equal(got, some(5000)) {
		t.Error(e)
	}
}

// P2.3: a burst may be longer than 32 bits and slip through: the check is no
// more than it says, and it is the divisor that does.
func TestDivisorSlips(t *testing.T) {
	b := crc.Put(nil, some(20))
	turn(b, 40, 1)
	// Of the divisor's 33 bits the first one is the highest power's.
	turn(b, 41, 0xEDB88320)
	if got, e := crc.Take(b); e != api.OK || len(got) != 20 {
		t.Error(got, e)
	}
}
