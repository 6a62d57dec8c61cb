package binlog_test

import (
	"bytes"
	"encoding/binary"
	"hash/crc32"
	"math"
	"slices"
	"testing"

	"pantograph/api"
	"pantograph/binlog"
)

// plain is a body's frame, made by other means than the program's.
func plain(body []byte) []byte {
	b := append(binary.AppendUvarint(nil, uint64(len(body))), body...)
	return binary.LittleEndian.AppendUint32(b, crc32.ChecksumIEEE(body))
}

// bytesOf is as many bytes, of many kinds.
func bytesOf(n int) []byte {
	b := make([]byte, n)
	for i := range b {
		b[i] = byte(i*i*7 + i*3 + n)
	}
	return b
}

// bodies is bodies whose lengths have one, two and three bytes.
func bodies() [][]byte {
	l := [][]byte{nil, {}, {0}, {128}, {255}, {0, 0, 0, 0}, {255, 255, 255, 255}, {128, 128, 128, 128, 128, 128, 128, 128, 128, 128, 128}}
	for _, n := range []int{1, 2, 3, 9, 10, 11, 126, 127, 128, 129, 300, 16383, 16384, 16385} {
		l = append(l, bytesOf(n), make([]byte, n))
	}
	return l
}

// aheads is what may stand ahead of a frame.
func aheads() [][]byte {
	return [][]byte{nil, {}, {0}, {255}, {200, 200, 200}, plain([]byte("one")), bytesOf(1000)}
}

// P7.1: a log of the Start alone.
func TestNew(t *testing.T) {
	b := binlog.New()
	if want := plain([]byte{1, 1}); !bytes.Equal(b, want) || !bytes.Equal(b[:3], []byte{2, 1, 1}) || len(b) != 7 {
		t.Fatal(b, want)
	}
	clear(b)
	if !bytes.Equal(binlog.New(), plain([]byte{1, 1})) {
		t.Error("a log that was told before is told again")
	}
}

// P7.1: a body's frame is put behind others.
func TestFrame(t *testing.T) {
	for _, ahead := range aheads() {
		for _, body := range bodies() {
			got, want := binlog.Frame(ahead, body), append(slices.Clone(ahead), plain(body)...)
			if !bytes.Equal(got, want) {
				t.Fatalf("%d bytes behind %d: %.40v, not %.40v", len(body), len(ahead), got, want)
			}
		}
	}
}

// P7.1: a frame comes to new memory, and nothing that was handed in is changed.
func TestFrameIsNew(t *testing.T) {
	room := bytes.Repeat([]byte{9}, 100)
	b, body := room[:3], []byte("body")
	one, two := binlog.Frame(b, body), binlog.Frame(b, []byte("other"))
	if !bytes.Equal(one[3:], plain(body)) || !bytes.Equal(two[3:], plain([]byte("other"))) {
		t.Error("one frame has the other one's memory", one, two)
	}
	if !bytes.Equal(room, bytes.Repeat([]byte{9}, 100)) || string(body) != "body" {
		t.Error("what was handed in is changed", room, body)
	}
	clear(one)
	clear(two)
	if room[0] != 9 || string(body) != "body" {
		t.Error("a frame has the memory of what was handed in")
	}
}

// wantNext checks what the frame at a place is: no body, if there is an error.
func wantNext(t *testing.T, b []byte, at int, body []byte, behind int, errno api.Errno) {
	t.Helper()
	was := slices.Clone(b)
	got, place, e := binlog.Next(b, at)
	if !bytes.Equal(got, body) || place != behind || e != errno || e != api.OK && got != nil {
		t.Errorf("Next(%.30v (%d bytes), %d) = %.30v, %d, %d; not %.30v, %d, %d", b, len(b), at, got, place, e, body, behind, errno)
	}
	if !bytes.Equal(b, was) {
		t.Errorf("Next(%.30v, %d): what was handed in is changed", was, at)
	}
}

// refused checks that the error of the frame at a place is told.
func refused(t *testing.T, b []byte, at int, errno api.Errno) {
	t.Helper()
	wantNext(t, b, at, nil, at, errno)
}

// P7.1, P7.4: frames are told as they were, whatever stands around them.
func TestNext(t *testing.T) {
	for _, ahead := range aheads() {
		for _, body := range bodies() {
			b := binlog.Frame(ahead, body)
			wantNext(t, b, len(ahead), body, len(b), api.OK)
			for _, behind := range aheads() {
				wantNext(t, append(slices.Clone(b), behind...), len(ahead), body, len(b), api.OK)
			}
		}
	}
	var b []byte
	for _, body := range bodies() {
		b = binlog.Frame(b, body)
	}
	at := 0
	for _, body := range bodies() {
		behind := at + len(plain(body))
		wantNext(t, b, at, body, behind, api.OK)
		at = behind
	}
	refused(t, b, at, api.ErrNone)
}

// P7.1: a body comes to new memory.
func TestNextIsNew(t *testing.T) {
	b := binlog.Frame(binlog.Frame(nil, []byte("body")), []byte("more"))
	was := slices.Clone(b)
	one, _, _ := binlog.Next(b, 0)
	two, _, _ := binlog.Next(b, 0)
	clear(one[:cap(one)])
	if !bytes.Equal(b, was) || string(two) != "body" {
		t.Error("a body has memory of the bytes, or of another body", b, two)
	}
	clear(b)
	if string(two) != "body" {
		t.Error("a body has memory of the bytes", two)
	}
}

// P7.1: places that are none.
func TestNextArg(t *testing.T) {
	for _, b := range [][]byte{nil, {}, {0}, binlog.New(), bytesOf(200)} {
		for _, at := range []int{-1, -2, -len(b), math.MinInt64, len(b) + 1, len(b) + 2, 2*len(b) + 1, math.MaxInt64, math.MaxInt64 - 3} {
			if at < 0 || at > len(b) {
				refused(t, b, at, api.ErrArg)
			}
		}
	}
}

// P7.1: at the end there is no frame.
func TestNextNone(t *testing.T) {
	for _, b := range [][]byte{nil, {}, {0}, {128}, binlog.New(), bytesOf(200)} {
		refused(t, b, len(b), api.ErrNone)
		// Room that is not handed in does not matter.
		refused(t, append(slices.Clone(b), plain([]byte("x"))...)[:len(b)], len(b), api.ErrNone)
	}
}

// P7.1: frames that are cut off anywhere.
func TestNextEnd(t *testing.T) {
	for _, ahead := range aheads() {
		for _, body := range bodies() {
			b := binlog.Frame(ahead, body)
			step := 1 + len(body)/200
			for n := len(ahead) + 1; n < len(b); n += step {
				refused(t, b[:n], len(ahead), api.ErrEnd)
			}
			refused(t, b[:len(b)-1], len(ahead), api.ErrEnd)
		}
	}
}

// P7.1: lengths that are no numbers, that end too soon, or that are beyond all
// that is there.
func TestNextLength(t *testing.T) {
	many := func(c byte, n int, behind ...byte) []byte { return append(bytes.Repeat([]byte{c}, n), behind...) }
	for i, c := range []struct {
		head  []byte
		alone api.Errno // of it alone
		with  api.Errno // of it with others behind it
	}{
		{many(128, 1), api.ErrEnd, api.OK}, {many(255, 1), api.ErrEnd, api.OK}, {many(128, 8), api.ErrEnd, api.OK},
		{many(128, 9), api.ErrEnd, api.OK}, {many(255, 9), api.ErrEnd, api.OK},
		{many(128, 10), api.ErrForm, api.ErrForm}, {many(255, 10), api.ErrForm, api.ErrForm}, {many(255, 11), api.ErrForm, api.ErrForm},
		{many(128, 10, 0), api.ErrForm, api.ErrForm}, {many(128, 10, 1), api.ErrForm, api.ErrForm},
		{many(128, 1, 0), api.ErrForm, api.ErrForm}, {many(130, 2, 0), api.ErrForm, api.ErrForm}, {many(255, 8, 0), api.ErrForm, api.ErrForm}, {many(255, 9, 0), api.ErrForm, api.ErrForm},
		{many(255, 9, 1), api.ErrForm, api.ErrForm}, {many(128, 9, 1), api.ErrForm, api.ErrForm}, {many(128, 9, 127), api.ErrForm, api.ErrForm},
		{many(255, 8, 127), api.ErrEnd, api.ErrEnd}, {many(128, 8, 127), api.ErrEnd, api.ErrEnd}, {many(128, 8, 1), api.ErrEnd, api.ErrEnd}, {many(128, 8, 64), api.ErrEnd, api.ErrEnd},
		{binary.AppendUvarint(nil, math.MaxInt64-4), api.ErrEnd, api.ErrEnd}, {binary.AppendUvarint(nil, math.MaxInt64-13), api.ErrEnd, api.ErrEnd},
		{binary.AppendUvarint(nil, math.MaxInt32), api.ErrEnd, api.ErrEnd}, {binary.AppendUvarint(nil, 1<<32), api.ErrEnd, api.ErrEnd}, {binary.AppendUvarint(nil, 1<<32+2), api.ErrEnd, api.ErrEnd},
		{[]byte{97}, api.ErrEnd, api.ErrEnd}, {[]byte{96}, api.ErrEnd, api.ErrSum}, {[]byte{0}, api.ErrEnd, api.ErrSum},
	} {
		behind := bytes.Repeat([]byte{9}, 100)
		for _, ahead := range aheads() {
			b := append(slices.Clone(ahead), c.head...)
			refused(t, b, len(ahead), c.alone)
			if c.with != api.OK {
				refused(t, append(b, behind...), len(ahead), c.with)
			}
		}
		if t.Failed() {
			t.Fatal(i)
		}
	}
}

// P7.1: each bit of a body and its check tells.
func TestNextSum(t *testing.T) {
	for _, ahead := range aheads() {
		for _, body := range [][]byte{nil, {0}, {1, 1}, bytesOf(20), bytesOf(130)} {
			b := binlog.Frame(ahead, body)
			from := len(b) - len(body) - 4
			for i := from * 8; i < len(b)*8; i++ {
				b[i/8] ^= 1 << (i % 8)
				refused(t, b, len(ahead), api.ErrSum)
				b[i/8] ^= 1 << (i % 8)
			}
		}
	}
	// The check of the bytes is asked, not of the frame, and the lowest byte of it comes first.
	refused(t, binary.LittleEndian.AppendUint32([]byte{1, 7}, crc32.ChecksumIEEE([]byte{1, 7})), 0, api.ErrSum)
	refused(t, binary.BigEndian.AppendUint32([]byte{1, 7}, crc32.ChecksumIEEE([]byte{7})), 0, api.ErrSum)
}

// turn changes, from the bit number at on, those bits of b that burst has; each
// byte's bits come from the lowest one on.
func turn(b []byte, at int, burst uint32) {
	for i := range 32 {
		if burst>>i&1 == 1 {
			b[(at+i)/8] ^= 1 << ((at + i) % 8)
		}
	}
}

// width is how many bits side by side a burst takes, from its lowest one on.
func width(burst uint32) int {
	n := 0
	for ; burst != 0; burst >>= 1 {
		n++
	}
	return n
}

// bursts is patterns of up to 32 bits, whose lowest bit is changed.
func bursts() []uint32 {
	l := []uint32{math.MaxUint32, 0xAAAAAAAB, 0x80000001, 0xEDB88321, 0x04C11DB7, 0xDB710641, 0x12345679, 0xFFFF0001}
	for n := range uint32(64) {
		l = append(l, 2*n+1)
	}
	for i := range 32 {
		l = append(l, 1<<i|1, math.MaxUint32>>i)
	}
	return l
}

// P7.4: a burst within a body and its check is told, wherever it stands.
func TestBurst(t *testing.T) {
	for _, body := range [][]byte{nil, {7, 5}, bytesOf(3), bytesOf(40), bytesOf(128)} {
		b := binlog.Frame([]byte{1, 2, 3}, body)
		from := len(b) - len(body) - 4
		for _, burst := range bursts() {
			for at := from * 8; at+width(burst) <= len(b)*8; at++ {
				turn(b, at, burst)
				if got, place, e := binlog.Next(b, 3); e != api.ErrSum || got != nil || place != 3 {
					t.Fatalf("%d bytes, burst %x at %d: %v, %d, %d", len(body), burst, at, got, place, e)
				}
				turn(b, at, burst)
			}
		}
	}
}

// P7.1: whatever the bytes and the place are, there is an error that is named,
// or a frame that is written as just those bytes.
func TestNextAll(t *testing.T) {
	letters := []byte{0, 1, 2, 5, 127, 128, 255}
	var all func(b []byte, left int)
	all = func(b []byte, left int) {
		for at := -1; at <= len(b)+1; at++ {
			body, place, e := binlog.Next(b, at)
			switch e {
			case api.OK:
				if at < 0 || place > len(b) || !bytes.Equal(plain(body), b[at:place]) {
					t.Fatalf("%v at %d: %v, %d", b, at, body, place)
				}
			case api.ErrArg, api.ErrNone, api.ErrEnd, api.ErrForm, api.ErrSum:
				if body != nil || place != at {
					t.Fatalf("%v at %d: %v, %d beside %d", b, at, body, place, e)
				}
			default:
				t.Fatalf("%v at %d: %d", b, at, e)
			}
		}
		if left > 0 {
			for _, c := range letters {
				all(append(slices.Clone(b), c), left-1)
			}
		}
	}
	all(nil, 5)
	all([]byte{0, 0, 0, 0, 0}, 2)
}
