package sink_test

import (
	"slices"
	"testing"

	"pantograph/api"
	"pantograph/disk"
	"pantograph/state"
)

// P16.3: behind Compact log is just the frame of the state's Bytes, kept, and new
// is not there; the state is as it was.
func TestCompact(t *testing.T) {
	all := some()
	for n := range len(all) + 1 {
		d, s := told(t, plenty, all[:n])
		short := compact(made(all[:n]))
		for range 3 {
			wantDeeds(t, d, 4, func() { want(t, s.Compact(), api.OK) })
			wantSink(t, s, made(all[:n]), len(short), false)
			wantKept(t, d, "log", string(short))
		}
		wantSink(t, open(t, d), made(all[:n]), len(short), false)
	}
}

// P16.3: what is committed behind a Compact stands behind it.
func TestCompactBetween(t *testing.T) {
	all := some()
	for n := range len(all) + 1 {
		d, s := told(t, plenty, all[:n])
		want(t, s.Compact(), api.OK)
		for _, g := range all[n:] {
			want(t, s.Commit(g.writes, g.point), api.OK)
		}
		b := append(compact(made(all[:n])), frames(bodies(all)[n:]...)...)
		wantSink(t, s, made(all), len(b), false)
		wantKept(t, d, "log", string(b))
		wantSink(t, open(t, d), made(all), len(b), false)
		want(t, s.Compact(), api.OK)
		wantKept(t, d, "log", string(compact(made(all))))
	}
}

// P16.3: without room for the frame ErrFull is told, new is removed, and the sink
// is not bad; with just room enough it is done.
func TestCompactFull(t *testing.T) {
	all := some()
	for n := range len(all) + 1 {
		b, short := log(all[:n]), compact(made(all[:n]))
		for _, room := range []int{len(b), len(b) + 1, len(b) + len(short) - 1} {
			d, s := told(t, room, all[:n])
			wantDeeds(t, d, 2, func() { want(t, s.Compact(), api.ErrFull) })
			wantSink(t, s, made(all[:n]), len(b), false)
			wantKept(t, d, "log", string(b))
		}
		d, s := told(t, len(b)+len(short), all[:n])
		want(t, s.Compact(), api.OK)
		wantSink(t, s, made(all[:n]), len(short), false)
		wantKept(t, d, "log", string(short))
	}
}

// P16.3: behind an ErrFull of Compact there may be room again.
func TestCompactBehindFull(t *testing.T) {
	all := some()
	b, short := log(all[:6]), compact(made(all[:6]))
	d := laid(t, len(b)+len(short), "log", string(b), "x", "1")
	s := open(t, d)
	for range 3 {
		want(t, s.Compact(), api.ErrFull)
		wantKept(t, d, "log", string(b), "x", "1")
	}
	want(t, d.Remove("x"), api.OK)
	want(t, s.Compact(), api.OK)
	wantSink(t, s, made(all[:6]), len(short), false)
	want(t, s.Commit(all[6].writes, all[6].point), api.OK)
	wantSink(t, open(t, d), made(all), s.Size(), false)
}

// P16.2, P16.3: where a Commit finds no room a Compact may make some.
func TestCompactMakesRoom(t *testing.T) {
	again := slices.Repeat([]api.Write{put("t", whole(1), text("row"))}, 20)
	l := []group{{[]api.Write{create("t")}, at(1)}}
	d, s := told(t, 2000, l)
	full := 0
	for n := range 100 {
		g := group{again, at(n)}
		e := s.Commit(g.writes, g.point)
		if e == api.ErrFull {
			full++
			wantSink(t, s, made(l), s.Size(), false)
			want(t, s.Compact(), api.OK)
			e = s.Commit(g.writes, g.point)
		}
		want(t, e, api.OK)
		l = append(l, g)
	}
	wantSink(t, open(t, d), made(l), s.Size(), false)
	if full < 5 {
		t.Error("there was room most often:", full)
	}
}

// P16.3: a file new that is there is told, and stays: it was not created.
func TestCompactExist(t *testing.T) {
	all := some()
	d, s := told(t, plenty, all)
	want(t, d.Create("new"), api.OK)
	want(t, d.Append("new", []byte("own")), api.OK)
	want(t, d.Sync("new"), api.OK)
	wantDeeds(t, d, 0, func() { want(t, s.Compact(), api.ErrExist) })
	wantSink(t, s, made(all), len(log(all)), false)
	wantKept(t, d, "log", string(log(all)), "new", "own")
	want(t, s.Commit(nil, at(1)), api.OK)
	want(t, d.Remove("new"), api.OK)
	want(t, s.Compact(), api.OK)
	wantKept(t, d, "log", string(compact(s.State())))
}

// P16.3: where the power goes at one of its deeds ErrDown is told, the sink is
// bad, and log is as it was.
func TestCompactGoesDown(t *testing.T) {
	all := some()
	b, short := log(all), compact(made(all))
	for deed := range 4 {
		for keep := range len(short) + 1 {
			d, s := told(t, plenty, all)
			d.Arm(deed)
			want(t, s.Compact(), api.ErrDown)
			wantSink(t, s, made(all), len(b), true)
			want(t, s.Compact(), api.ErrBad)
			want(t, s.Commit(nil, at(1)), api.ErrBad)
			d.Up([]int{0, keep})
			left := []string{"log", string(b)}
			switch deed {
			case 1, 2:
				left = append(left, "new", string(short[:keep]))
			case 3:
				left = append(left, "new", string(short))
			}
			wantFiles(t, d, left...)
			if keep%20 == 0 {
				wantBad(t, d, s, made(all), len(b))
				wantFiles(t, d, left...)
			}
		}
	}
}

// P16.3: where the power was gone already, or goes where new is removed again,
// the sink is bad, too; the error is the first one.
func TestCompactIsDown(t *testing.T) {
	all := some()
	b := log(all)
	d, s := told(t, plenty, all)
	d.Arm(0)
	want(t, d.Create("x"), api.ErrDown)
	want(t, s.Compact(), api.ErrDown)
	wantSink(t, s, made(all), len(b), true)
	d.Up(nil)
	wantBad(t, d, s, made(all), len(b))
	wantFiles(t, d, "log", string(b))

	d, s = told(t, len(b), all)
	d.Arm(1)
	want(t, s.Compact(), api.ErrFull)
	wantSink(t, s, made(all), len(b), true)
	d.Up(nil)
	wantBad(t, d, s, made(all), len(b))
	wantFiles(t, d, "log", string(b), "new", "")
	wantSink(t, open(t, d), made(all), len(b), false)
	wantKept(t, d, "log", string(b))
}

// P16.3: State is a clone: neither hangs on the other.
func TestStateIsClone(t *testing.T) {
	all := some()
	d := disk.New(plenty)
	s := open(t, d)
	var was []*state.State
	for n, g := range all {
		was = append(was, s.State())
		own := s.State()
		want(t, own.Apply([]api.Write{create("own")}, at(9)), api.OK)
		want(t, s.Commit(g.writes, g.point), api.OK)
		if n%2 == 1 {
			want(t, s.Compact(), api.OK)
		}
	}
	for n, one := range was {
		if !sameState(one, made(all[:n])) {
			t.Errorf("behind %d groups: %s", n, brief(one))
		}
	}
	wantSink(t, s, made(all), s.Size(), false)
}

// P16.3: Size is what the sink knows: of what others do to log it knows nothing.
func TestSizeAsKnown(t *testing.T) {
	all := some()
	d, s := told(t, plenty, all[:2])
	b := log(all[:2])
	want(t, d.Append("log", []byte("more")), api.OK)
	wantSink(t, s, made(all[:2]), len(b), false)
	want(t, s.Compact(), api.OK)
	wantSink(t, s, made(all[:2]), len(compact(made(all[:2]))), false)
	want(t, d.Remove("log"), api.OK)
	wantSink(t, s, made(all[:2]), len(compact(made(all[:2]))), false)
	// Compact needs no log that is there.
	want(t, s.Compact(), api.OK)
	wantKept(t, d, "log", string(compact(made(all[:2]))))
}
