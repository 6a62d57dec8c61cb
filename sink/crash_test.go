package sink_test

import (
	"slices"
	"testing"

	"pantograph/api"
	"pantograph/disk"
	"pantograph/sink"
	"pantograph/state"
)

// step is a Commit of a group, or a Compact.
type step struct {
	group
	compact bool
}

// scripts is rows of steps: Commits alone, and with a Compact behind each of some,
// or behind all of them.
func scripts() [][]step {
	var all [][]step
	for _, often := range []int{0b0000000, 0b0000001, 0b0100100, 0b1010010, 0b1111111} {
		l := []step{{compact: often == 0b1111111}}
		if often == 0 {
			l = nil
		}
		for i, g := range some() {
			l = append(l, step{group: g})
			if often>>i&1 == 1 {
				l = append(l, step{compact: true})
			}
		}
		all = append(all, l)
	}
	return all
}

// run opens the sink of a disk and does steps, up to the first error; it tells the
// state behind all that told OK, and the one behind the step that did not (the
// same, if there is none).
func run(t *testing.T, d *disk.Disk, steps []step) (ahead, behind *state.State) {
	t.Helper()
	ahead = state.New()
	s, e := sink.Open(d)
	for _, one := range steps {
		if e != api.OK {
			break
		}
		behind = ahead.Clone()
		if one.compact {
			e = s.Compact()
		} else {
			want(t, behind.Apply(one.writes, one.point), api.OK)
			e = s.Commit(one.writes, one.point)
		}
		if e == api.OK {
			ahead = behind
		}
	}
	if e != api.OK && e != api.ErrDown {
		t.Fatal(e)
	}
	if behind == nil {
		behind = ahead
	}
	return ahead, behind
}

// copied is a disk that has the same files; all of them are kept.
func copied(t *testing.T, d *disk.Disk) *disk.Disk {
	t.Helper()
	var l []string
	for _, name := range d.List() {
		b, e := d.Read(name)
		want(t, e, api.OK)
		l = append(l, name, string(b))
	}
	return laid(t, plenty, l...)
}

// wantAgain cuts at each deed of Open, keeps some of the loose bytes, and checks
// that the same state is found again, and that what is committed then is there.
func wantAgain(t *testing.T, d *disk.Disk, has *state.State) {
	t.Helper()
	for deed := 0; ; deed++ {
		for _, keep := range []int{0, 1, 13, -1, -8} {
			own := copied(t, d)
			own.Arm(deed)
			s, e := sink.Open(own)
			if e == api.OK {
				wantSink(t, s, has, s.Size(), false)
				wantOn(t, own, s)
				return
			}
			want(t, e, api.ErrDown)
			own.Up([]int{keep, keep})
			s = open(t, own)
			wantSink(t, s, has, s.Size(), false)
			wantOn(t, own, s)
		}
	}
}

// wantOn commits one group more and checks that it is there.
func wantOn(t *testing.T, d *disk.Disk, s *sink.Sink) {
	t.Helper()
	d.Arm(-1)
	has := s.State()
	want(t, has.Apply([]api.Write{create("more")}, at(900)), api.OK)
	want(t, s.Commit([]api.Write{create("more")}, at(900)), api.OK)
	d.Arm(0)
	want(t, d.Create("cut"), api.ErrDown)
	d.Up(nil)
	s = open(t, d)
	wantSink(t, s, has, s.Size(), false)
	if l := d.List(); !slices.Equal(l, []string{"log"}) {
		t.Fatal(l)
	}
}

// P16.4: wherever the power goes, whatever is kept, the state that is found is the
// one ahead of the step at which it went, or the one behind it: the latter only
// where all of the frame is kept.
func TestCuts(t *testing.T) {
	found := [2]int{}
	for _, steps := range scripts() {
		for deed, went := 0, true; went; deed++ {
			for keep := range 230 {
				d := disk.New(plenty)
				d.Arm(deed)
				ahead, behind := run(t, d, steps)
				if went = d.Down(); !went {
					wantOn(t, d, open(t, d))
					break
				}
				d.Up([]int{keep, keep})
				before := copied(t, d)
				s := open(t, d)
				has := s.State()
				switch {
				case sameState(has, ahead):
					found[0]++
				case sameState(has, behind):
					found[1]++
				default:
					t.Fatalf("cut at %d, %d kept: %s; not %s, nor %s", deed, keep, brief(has), brief(ahead), brief(behind))
				}
				if keep%45 < 2 {
					wantAgain(t, before, has)
				}
			}
		}
	}
	if found[0] < 1000 || found[1] < 50 {
		t.Error("one of the two is found seldom:", found)
	}
}

// P16.4: a Commit of which all bytes are kept is there, be it that Append or Sync
// told ErrDown; with one byte less it is not.
func TestCutsWithAllKept(t *testing.T) {
	all := some()
	for n, g := range all {
		size := len(log(all[:n+1])) - len(log(all[:n]))
		for deed := range 2 {
			for keep, many := range map[int]int{0: n, size - 1: n, size: n + 1, size + 1: n, -1: n, -size - 1: n + 1} {
				d, s := told(t, plenty, all[:n])
				d.Arm(deed)
				want(t, s.Commit(g.writes, g.point), api.ErrDown)
				d.Up([]int{keep})
				s = open(t, d)
				wantSink(t, s, made(all[:many]), s.Size(), false)
			}
		}
	}
}

// P16.4: power cuts one behind the other, each at a later deed, with all steps
// tried again that are not found to be done.
func TestCutsInRows(t *testing.T) {
	all := some()
	for from := range 5 {
		for keep := range 40 {
			d, done, cuts := disk.New(plenty), 0, 0
			for done < len(all) {
				d.Arm((from + cuts) % 5)
				s, e := sink.Open(d)
				for e == api.OK && done < len(all) {
					if e = s.Commit(all[done].writes, all[done].point); e == api.OK {
						done++
					}
					if e == api.OK && cuts%3 == 2 {
						e = s.Compact()
					}
				}
				if e == api.OK {
					break
				}
				want(t, e, api.ErrDown)
				cuts++
				d.Up([]int{keep, keep})
				// The last one may be there though it was told to have failed.
				if has := open(t, d).State(); done < len(all) && sameState(has, made(all[:done+1])) {
					done++
				} else if !sameState(has, made(all[:done])) {
					t.Fatalf("from %d, %d kept, behind %d cuts: %s", from, keep, cuts, brief(has))
				}
			}
			d.Arm(-1)
			s := open(t, d)
			wantSink(t, s, made(all), s.Size(), false)
			if cuts < 3 {
				t.Fatal("few cuts:", cuts)
			}
		}
	}
}
