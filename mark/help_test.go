package mark_test

import (
	"testing"

	"pantograph/api"
	"pantograph/mark"
)

// things is what a marker tells of itself.
type things struct {
	phase, number int
	table         string
	inside        bool
}

// nobody is what an idle marker tells.
var nobody = things{number: -1}

// wantThings checks what a marker tells of itself, twice: to be asked changes nothing.
func wantThings(t *testing.T, call string, m *mark.Marker, want things) {
	t.Helper()
	for range 2 {
		if got := (things{m.Phase(), m.Number(), m.Table(), m.Inside()}); got != want {
			t.Fatalf("behind %s: %v, not %v", call, got, want)
		}
	}
}

// wantErrno checks what a call told.
func wantErrno(t *testing.T, call string, got, want api.Errno) {
	t.Helper()
	if got != want {
		t.Fatalf("%s: %v, not %v", call, got, want)
	}
}

// wantMeet checks what is to be done with an event.
func wantMeet(t *testing.T, m *mark.Marker, e api.Event, want int) {
	t.Helper()
	if got := m.Meet(e); got != want {
		t.Fatalf("Meet of %v: %d, not %d", e, got, want)
	}
}

// lowMark and highMark are a chunk's marks, as a log tells them.
func lowMark(number int) api.Event  { return api.Event{Kind: api.Low, Number: number} }
func highMark(number int) api.Event { return api.Event{Kind: api.High, Number: number} }

// at leads an idle marker to a phase of a chunk of the number and of t; inside
// is whether it met the chunk's Low, which it can from phase 2 on.
func at(t *testing.T, m *mark.Marker, phase, number int, inside bool) {
	t.Helper()
	steps := []func() api.Errno{
		func() api.Errno { return m.Low(number, "t") },
		m.Select,
		m.High,
	}
	for i, step := range steps[:phase] {
		wantErrno(t, "a step", step(), api.OK)
		wantThings(t, "a step", m, things{i + 1, number, "t", false})
	}
	if inside {
		wantMeet(t, m, lowMark(number), mark.Pass)
	}
	want := things{phase, number, "t", inside}
	if phase == 0 {
		want = nobody
	}
	wantThings(t, "all steps", m, want)
}

// place is where a marker may stand: at a phase, inside or not.
type place struct {
	phase  int
	inside bool
}

// places is all places.
func places() []place {
	return []place{{0, false}, {1, false}, {2, false}, {2, true}, {3, false}, {3, true}}
}
