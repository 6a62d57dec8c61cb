package source

import (
	"maps"
	"slices"

	"pantograph/api"
	"pantograph/event"
	"pantograph/schema"
	"pantograph/tree"
)

// trial is a transaction that does not stand yet: what its deeds make of the
// rows, and the frames of their events. One in which a deed can't be done is
// dropped, whatever it has made till then.
type trial struct {
	tables []api.Table
	rows   map[string]*tree.Tree[api.Row]
	frames []byte
}

// try does deeds one by one, on rows of their own: the source stays as it is.
func (s *Source) try(l []api.Deed) (*trial, api.Errno) {
	t := &trial{tables: s.tables, rows: clones(s.rows)}
	kinds := map[int]func(*trial, api.Deed) api.Errno{
		api.DoInsert: (*trial).insert,
		api.DoUpdate: (*trial).update,
		api.DoDelete: (*trial).remove,
	}
	for _, d := range l {
		does, ok := kinds[d.Kind]
		if !ok {
			return nil, api.ErrKind
		}
		if errno := does(t, d); errno != api.OK {
			return nil, errno
		}
	}
	return t, api.OK
}

// clones is the same rows, in trees that hang on the others no more.
func clones(rows map[string]*tree.Tree[api.Row]) map[string]*tree.Tree[api.Row] {
	own := maps.Clone(rows)
	for name, t := range rows {
		own[name] = t.Clone()
	}
	return own
}

func (t *trial) insert(d api.Deed) api.Errno {
	had, errno := t.put(api.Insert, d)
	if errno == api.OK && had {
		return api.ErrExist
	}
	return errno
}

func (t *trial) update(d api.Deed) api.Errno {
	had, errno := t.put(api.Update, d)
	if errno == api.OK && !had {
		return api.ErrState
	}
	return errno
}

func (t *trial) remove(d api.Deed) api.Errno {
	key, errno := t.tell(api.Event{Kind: api.Delete, Table: d.Table, Before: d.Row}, d.Row)
	if errno == api.OK && !t.rows[d.Table].Cut(key) {
		return api.ErrState
	}
	return errno
}

// put puts a deed's row at its key, and an event of that kind behind the others;
// whether a row stood there.
func (t *trial) put(kind int, d api.Deed) (bool, api.Errno) {
	key, errno := t.tell(api.Event{Kind: kind, Table: d.Table, After: d.Row}, d.Row)
	if errno != api.OK {
		return false, errno
	}
	return t.rows[d.Table].Put(key, slices.Clone(d.Row)), api.OK
}

// tell puts a deed's event behind the others, and answers its row's key. An
// event may be just where the deed's table is there and its row fits, so its
// error is the deed's.
func (t *trial) tell(e api.Event, row api.Row) (string, api.Errno) {
	told, errno := frame(e, t.tables)
	if errno != api.OK {
		return "", errno
	}
	t.frames = append(t.frames, told...)
	own, _ := event.Find(t.tables, e.Table)
	return schema.Key(own, row)
}
