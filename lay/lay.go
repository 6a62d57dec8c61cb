// Package lay is layer 1, numbers and texts as bytes: see shared/doc/01-lay.md.
package lay

import (
	"bytes"
	"math"
	"math/bits"

	"pantograph/api"
)

// longest is how many bytes a number of 64 bits has at most, at 7 bits a byte.
const longest = 10

// Number is a number's bytes, behind others.
func Number(b []byte, n int) []byte {
	return behind(b, digits(uint64(n)))
}

// Signed is a signed number's bytes, behind others.
func Signed(b []byte, n int) []byte {
	// All bits of n>>63 are n's sign: below 0 they turn 2n into -2n - 1.
	return behind(b, digits(uint64(n<<1)^uint64(n>>63)))
}

// Text is a text's bytes, behind others.
func Text(b []byte, s string) []byte {
	return behind(b, append(digits(uint64(len(s))), s...))
}

// behind puts own, which is never empty, behind b. The third index leaves b no
// spare room, which may be somebody else's, so that all comes to new memory.
func behind(b, own []byte) []byte {
	return append(b[:len(b):len(b)], own...)
}

// digits is n to the base 128, in new memory.
func digits(n uint64) []byte {
	// 0 has a digit too: hence the lowest bit.
	size := (bits.Len64(n|1) + 6) / 7
	d := make([]byte, size)
	for i := range size {
		d[i] = byte(n>>(7*i)) | 128
	}
	d[size-1] &= 127
	return d
}

// Reader reads bytes.
type Reader struct {
	rest  []byte
	errno api.Errno
}

// Read is a reader of bytes.
func Read(b []byte) *Reader {
	// What is handed in is not kept: whoever owns it may change it meanwhile.
	return &Reader{rest: bytes.Clone(b)}
}

// Number reads a number.
func (r *Reader) Number() int {
	return int(r.number(math.MaxInt64))
}

// Signed reads a signed number.
func (r *Reader) Signed() int {
	n := r.number(math.MaxUint64)
	return int(n>>1) ^ -int(n&1)
}

// number reads a number that is not above most.
func (r *Reader) number(most uint64) uint64 {
	n, size, e := head(r.rest, most)
	if !r.pass(size, e) {
		return 0
	}
	return n
}

// Text reads a text.
func (r *Reader) Text(most int) string {
	n, size, e := head(r.rest, math.MaxInt64)
	length := int(n)
	switch {
	case e != api.OK:
	case length > most:
		e = api.ErrForm
	case length > len(r.rest)-size:
		e = api.ErrEnd
	}
	own := r.rest
	if !r.pass(size+length, e) {
		return ""
	}
	return string(own[size : size+length])
}

// Byte reads a byte.
func (r *Reader) Byte() int {
	own, e := r.rest, api.OK
	if len(own) == 0 {
		e = api.ErrEnd
	}
	if !r.pass(1, e) {
		return 0
	}
	return int(own[0])
}

// pass goes on by size bytes, and tells whether it did: not if e, or an error
// from before, stands against it. The first error stays, whatever comes later.
func (r *Reader) pass(size int, e api.Errno) bool {
	if r.errno == api.OK {
		r.errno = e
	}
	if r.errno != api.OK {
		return false
	}
	r.rest = r.rest[size:]
	return true
}

// head is the number, not above most, that b begins with, and how many bytes
// it has.
func head(b []byte, most uint64) (uint64, int, api.Errno) {
	var n uint64
	for i := range longest {
		if i == len(b) {
			return 0, 0, api.ErrEnd
		}
		digit := uint64(b[i] & 127)
		n |= digit << (7 * i)
		if b[i] >= 128 {
			continue
		}
		// A digit that lost bits when it was shifted is of a number beyond 64 bits.
		if i > 0 && digit == 0 || n>>(7*i) != digit || n > most {
			return 0, 0, api.ErrForm
		}
		return n, i + 1, api.OK
	}
	return 0, 0, api.ErrForm
}

// Left is how many bytes are left.
func (r *Reader) Left() int { return len(r.rest) }

// Errno is the error.
func (r *Reader) Errno() api.Errno { return r.errno }

// End tells whether all went well, and nothing is left.
func (r *Reader) End() api.Errno {
	if r.errno == api.OK && len(r.rest) > 0 {
		return api.ErrForm
	}
	return r.errno
}
