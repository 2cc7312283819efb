package update

import (
	"slices"
	"strings"

	"forestay/api"
	"forestay/refs"
	"forestay/walk"
)

// board has names of its own, rising, that updates change one by one.
type board struct {
	names   []api.Ref
	objects []api.Object
	force   bool
}

func newBoard(l []api.Ref, objects []api.Object, force bool) *board {
	return &board{names: slices.Clone(l), objects: objects, force: force}
}

// follow an update, if it may be done.
func (b *board) follow(u api.Update) api.Errno {
	// Get answers 0 of a name that is not there, just as Old tells it.
	if id, _ := refs.Get(b.names, u.Name); id != u.Old {
		return api.ErrState
	}
	if u.New != 0 {
		if e := b.mayBecome(u); e != api.OK {
			return e
		}
	}
	b.change(u.Name, u.New)
	return api.OK
}

// mayBecome: may the name be of New? Old is 0, or a commit of the store, so that Behind's errors are New's alone.
func (b *board) mayBecome(u api.Update) api.Errno {
	old := u.Old
	if old == 0 {
		// A commit is behind itself, so that of a new name only New is asked.
		old = u.New
	}
	behind, e := walk.Behind(b.objects, old, u.New)
	if e == api.OK && !behind && !b.force {
		return api.ErrState
	}
	return e
}

func (b *board) change(name string, id int) {
	b.names = slices.DeleteFunc(b.names, func(r api.Ref) bool { return r.Name == name })
	if id == 0 {
		return
	}
	b.names = append(b.names, api.Ref{Name: name, Id: id})
	slices.SortFunc(b.names, func(x, y api.Ref) int { return strings.Compare(x.Name, y.Name) })
}
