package chunk

import (
	"math"
	"slices"

	"pantograph/api"
	"pantograph/lay"
)

// May tells whether a point may be.
func May(p api.Point) bool {
	return p.At >= 0 && p.Many >= 0 && p.Chunk >= 0 && Right(p.Works)
}

// Write is a point's bytes.
func Write(p api.Point) ([]byte, api.Errno) {
	if !May(p) {
		return nil, api.ErrArg
	}
	var b []byte
	for _, n := range [...]int{p.At, p.Many, p.Chunk, len(p.Works)} {
		b = append(b, lay.Number(nil, n)...)
	}
	for _, w := range p.Works {
		// Piece by piece b's room grows ahead of need: lay's calls behind b would
		// copy all of it each time.
		b = append(b, lay.Text(nil, w.Table)...)
		b = append(b, flag(w.Done))
		b = append(b, lay.Text(nil, w.Key)...)
	}
	return b, api.OK
}

// flag is the byte of whether a work is done.
func flag(done bool) byte {
	if done {
		return 1
	}
	return 0
}

// Read is the point of bytes.
func Read(b []byte) (api.Point, api.Errno) {
	r := lay.Read(b)
	p := api.Point{At: r.Number(), Many: r.Number(), Chunk: r.Number()}
	for range r.Number() {
		w, ok := work(r)
		if !ok {
			return api.Point{}, api.ErrForm
		}
		p.Works = append(p.Works, w)
	}
	if r.End() != api.OK || !May(p) {
		return api.Point{}, api.ErrForm
	}
	return p, api.OK
}

// work reads a work; false, if r tells an error, or if what tells whether it is
// done is neither 0 nor 1.
func work(r *lay.Reader) (api.Work, bool) {
	w := api.Work{Table: r.Text(api.MaxName)}
	done := r.Byte()
	w.Done = done == 1
	w.Key = r.Text(math.MaxInt)
	return w, done <= 1 && r.Errno() == api.OK
}

// Same tells whether two points are the same.
func Same(a, b api.Point) bool {
	return a.At == b.At && a.Many == b.Many && a.Chunk == b.Chunk && slices.Equal(a.Works, b.Works)
}
