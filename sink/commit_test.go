package sink_test

import (
	"slices"
	"testing"

	"pantograph/api"
	"pantograph/disk"
	"pantograph/sink"
	"pantograph/state"
)

// P16.2: behind each Commit the frame of its group stands behind the log, kept,
// and the state is as Apply makes it.
func TestCommit(t *testing.T) {
	all := some()
	d := disk.New(plenty)
	s := open(t, d)
	for n, g := range all {
		b := log(all[:n+1])
		wantDeeds(t, d, 2, func() { want(t, s.Commit(g.writes, g.point), api.OK) })
		wantSink(t, s, made(all[:n+1]), len(b), false)
		wantKept(t, d, "log", string(b))
		wantSink(t, open(t, d), made(all[:n+1]), len(b), false)
	}
}

// P16.2: the same in a log that was there already, beside other files.
func TestCommitBehindOthers(t *testing.T) {
	all := some()
	for n := range all {
		d := laid(t, plenty, "lo", "a", "log", string(log(all[:n])), "z", "b")
		s := open(t, d)
		for _, g := range all[n:] {
			want(t, s.Commit(g.writes, g.point), api.OK)
		}
		wantSink(t, s, made(all), len(log(all)), false)
		wantKept(t, d, "lo", "a", "log", string(log(all)), "z", "b")
	}
}

// P16.2: a group of no writes is a group, whatever point it has.
func TestCommitPointAlone(t *testing.T) {
	d := disk.New(plenty)
	s := open(t, d)
	var l []group
	for _, p := range []api.Point{{}, at(5), at(5), at(4), {}, {Many: 1 << 40}} {
		l = append(l, group{nil, p})
		want(t, s.Commit(nil, p), api.OK)
		wantSink(t, s, made(l), len(log(l)), false)
		wantFiles(t, d, "log", string(log(l)))
	}
}

// wrongGroups is groups that may not be behind four of some groups, and why.
func wrongGroups() []struct {
	errno api.Errno
	group
} {
	one := []api.Write{put("t", whole(1), null())}
	behind := func(w api.Write) []api.Write { return []api.Write{one[0], w} }
	return []struct {
		errno api.Errno
		group
	}{
		{api.ErrArg, group{nil, api.Point{At: -1}}},
		{api.ErrArg, group{one, api.Point{Many: -1}}},
		{api.ErrArg, group{one, api.Point{Works: []api.Work{{Table: "b"}, {Table: "a"}}}}},
		{api.ErrArg, group{[]api.Write{{}}, api.Point{Chunk: -1}}}, // the point's comes first
		{api.ErrKind, group{behind(api.Write{}), at(1)}},
		{api.ErrKind, group{behind(api.Write{Kind: 4}), at(1)}},
		{api.ErrKind, group{behind(turn(api.Change{Table: "t"})), at(1)}},
		{api.ErrNone, group{behind(put("v", whole(1), null())), at(1)}},
		{api.ErrNone, group{behind(off("v", whole(1))), at(1)}},
		{api.ErrNone, group{behind(drop("v")), at(1)}},
		{api.ErrRow, group{behind(put("t", whole(1))), at(1)}},
		{api.ErrRow, group{behind(off("t", whole(1), null())), at(1)}},
		{api.ErrRow, group{behind(off("t", text("x"))), at(1)}},
		{api.ErrArg, group{behind(api.Write{Kind: api.Off, Table: "t", Row: api.Row{whole(1)}, Change: api.Change{Kind: api.Drop}}), at(1)}},
		{api.ErrExist, group{behind(create("u")), at(1)}},
		{api.ErrNone, group{behind(cut("t", "x")), at(1)}},
		{api.ErrSchema, group{behind(cut("t", "id")), at(1)}},
		{api.ErrArg, group{behind(create("T!")), at(1)}},
		{api.ErrRow, group{[]api.Write{put("t", whole(1)), {}}, at(1)}}, // the first one's that may not be
	}
}

// P16.2: what the state's Apply tells is told, and nothing is done.
func TestCommitRefused(t *testing.T) {
	all := some()[:4]
	b := log(all)
	d, s := told(t, plenty, all)
	for _, c := range wrongGroups() {
		if e := made(all).Apply(c.writes, c.point); e != c.errno {
			t.Fatalf("Apply of %v: %d, not %d", c.group, e, c.errno)
		}
		wantDeeds(t, d, 0, func() { want(t, s.Commit(c.writes, c.point), c.errno) })
		wantSink(t, s, made(all), len(b), false)
		wantFiles(t, d, "log", string(b))
	}
	for _, g := range some()[4:] {
		want(t, s.Commit(g.writes, g.point), api.OK)
	}
	wantKept(t, d, "log", string(log(some())))
}

// P16.2: Apply's error comes ahead of the disk's, and of ErrBad.
func TestCommitErrorsInOrder(t *testing.T) {
	all := some()[:4]
	b := log(all)
	full := laid(t, len(b), "log", string(b))
	down := laid(t, plenty, "log", string(b))
	f, g, bad := open(t, full), open(t, down), open(t, down)
	down.Arm(0)
	want(t, bad.Commit(nil, at(1)), api.ErrDown)
	for _, c := range wrongGroups() {
		want(t, f.Commit(c.writes, c.point), c.errno)
		want(t, g.Commit(c.writes, c.point), c.errno)
		want(t, bad.Commit(c.writes, c.point), api.ErrBad)
	}
	wantSink(t, f, made(all), len(b), false)
	wantSink(t, g, made(all), len(b), false)
	wantSink(t, bad, made(all), len(b), true)
	want(t, f.Commit(nil, at(1)), api.ErrFull)
	want(t, g.Commit(nil, at(1)), api.ErrDown)
	wantSink(t, f, made(all), len(b), false)
	wantSink(t, g, made(all), len(b), true)
}

// P16.2: without room for the frame ErrFull is told, nothing is changed, and the
// sink is not bad: with just room enough the group is taken.
func TestCommitFull(t *testing.T) {
	all := some()
	for n, g := range all {
		ahead, b := log(all[:n]), log(all[:n+1])
		for _, room := range []int{len(ahead), len(ahead) + 1, len(b) - 1} {
			d, s := told(t, room, all[:n])
			for range 2 {
				wantDeeds(t, d, 0, func() { want(t, s.Commit(g.writes, g.point), api.ErrFull) })
				wantSink(t, s, made(all[:n]), len(ahead), false)
				wantKept(t, d, "log", string(ahead))
			}
		}
		d, s := told(t, len(b), all[:n+1])
		wantSink(t, s, made(all[:n+1]), len(b), false)
		want(t, s.Commit(nil, at(1)), api.ErrFull)
		wantKept(t, d, "log", string(b))
	}
}

// P16.2: behind ErrFull there may be room again: for a lesser group, or where
// another file is gone.
func TestCommitBehindFull(t *testing.T) {
	all := some()
	b := log(all[:1])
	d := laid(t, len(b)+20, "log", string(b), "x", "123")
	s := open(t, d)
	want(t, s.Commit(all[1].writes, all[1].point), api.ErrFull)
	want(t, s.Commit(nil, api.Point{}), api.OK)
	want(t, s.Commit(nil, api.Point{}), api.ErrFull)
	want(t, d.Remove("x"), api.OK)
	want(t, s.Commit(nil, api.Point{}), api.OK)
	l := []group{all[0], {}, {}}
	wantSink(t, s, made(l), len(log(l)), false)
	wantKept(t, d, "log", string(log(l)))
}

// wantBad checks that a sink is bad, and does nothing any more.
func wantBad(t *testing.T, d *disk.Disk, s *sink.Sink, has *state.State, size int) {
	t.Helper()
	wantSink(t, s, has, size, true)
	wantDeeds(t, d, 0, func() {
		for _, g := range append(some(), group{}, group{nil, api.Point{At: -1}}) {
			want(t, s.Commit(g.writes, g.point), api.ErrBad)
			want(t, s.Compact(), api.ErrBad)
		}
	})
	wantSink(t, s, has, size, true)
}

// P16.2: where the power goes at Append or Sync, ErrDown is told, the state is as
// it was, and the sink is bad, also when the power is there again.
func TestCommitGoesDown(t *testing.T) {
	all := some()
	for n, g := range all {
		ahead, b := log(all[:n]), log(all[:n+1])
		for deed := range 2 {
			for keep := range len(b) - len(ahead) + 1 {
				d, s := told(t, plenty, all[:n])
				d.Arm(deed)
				want(t, s.Commit(g.writes, g.point), api.ErrDown)
				wantSink(t, s, made(all[:n]), len(ahead), true)
				want(t, s.Commit(g.writes, g.point), api.ErrBad)
				want(t, s.Compact(), api.ErrBad)
				d.Up([]int{keep})
				left := string(b[:len(ahead)+keep])
				wantFiles(t, d, "log", left)
				if keep%9 == 0 {
					wantBad(t, d, s, made(all[:n]), len(ahead))
					wantFiles(t, d, "log", left)
				}
			}
		}
	}
}

// P16.2: where the power was gone already, it is the same.
func TestCommitIsDown(t *testing.T) {
	all := some()[:3]
	d, s := told(t, plenty, all)
	d.Arm(0)
	want(t, d.Create("x"), api.ErrDown)
	wantSink(t, s, made(all), len(log(all)), false)
	want(t, s.Commit(nil, at(1)), api.ErrDown)
	wantSink(t, s, made(all), len(log(all)), true)
	d.Up(nil)
	wantFiles(t, d, "log", string(log(all)))
	wantBad(t, d, s, made(all), len(log(all)))
}

// P16.2: who was not told that the power was gone is not bad.
func TestCommitNotTold(t *testing.T) {
	all := some()
	d, s := told(t, plenty, all[:3])
	d.Arm(0)
	want(t, d.Create("x"), api.ErrDown)
	d.Up(nil)
	for _, g := range all[3:] {
		want(t, s.Commit(g.writes, g.point), api.OK)
	}
	wantSink(t, s, made(all), len(log(all)), false)
	wantKept(t, d, "log", string(log(all)))
}

// P16.2: another error of Append than ErrFull makes it bad, too: log is gone.
func TestCommitWithoutLog(t *testing.T) {
	all := some()[:3]
	d, s := told(t, plenty, all)
	want(t, d.Remove("log"), api.OK)
	want(t, s.Commit(nil, at(1)), api.ErrNone)
	wantFiles(t, d)
	want(t, d.Create("log"), api.OK)
	wantBad(t, d, s, made(all), len(log(all)))
	wantFiles(t, d, "log", "")
}

// P16.2: a sink that is bad leaves another one of the same disk as it is.
func TestBadAlone(t *testing.T) {
	all := some()
	d, s := told(t, plenty, all[:3])
	d.Arm(0)
	want(t, s.Commit(all[3].writes, all[3].point), api.ErrDown)
	d.Up(nil)
	again := open(t, d)
	for _, g := range all[3:] {
		want(t, again.Commit(g.writes, g.point), api.OK)
		want(t, s.Commit(g.writes, g.point), api.ErrBad)
	}
	wantSink(t, s, made(all[:3]), len(log(all[:3])), true)
	wantSink(t, again, made(all), len(log(all)), false)
	wantKept(t, d, "log", string(log(all)))
}

// P16.2: long groups, of some thousand writes.
func TestCommitLong(t *testing.T) {
	writes := []api.Write{create("t")}
	for i := range 3000 {
		writes = append(writes, put("t", whole(i*7%3000), text("row")))
	}
	l := []group{{writes, at(1)}, {slices.Repeat([]api.Write{off("t", whole(1))}, 1000), at(2)}}
	d, s := told(t, plenty, l)
	wantSink(t, s, made(l), len(log(l)), false)
	wantSink(t, open(t, d), made(l), len(log(l)), false)
	if s.State().Len() != 2999 {
		t.Error(s.State().Len())
	}
}
