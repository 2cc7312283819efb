// Package store: stores: see doc/02-store.md.
package store

import (
	"forestay/api"
	"forestay/copies"
	"forestay/object"
)

// Check a store.
func Check(l []api.Object) api.Errno {
	if len(l) > api.MaxObject {
		return api.ErrMany
	}
	last := 0
	return each(l, func(o api.Object) api.Errno {
		if e := object.Check(o); e != api.OK {
			return e
		}
		if o.Id <= last {
			return api.ErrState
		}
		last = o.Id
		return checkLinks(l, o)
	})
}

// Find an object.
func Find(l []api.Object, id int) (api.Object, api.Errno) {
	if e := Check(l); e != api.OK {
		return api.Object{}, e
	}
	at := place(l, id)
	if at < 0 {
		return api.Object{}, api.ErrNone
	}
	return copies.Object(l[at]), api.OK
}

// Add objects.
func Add(l, more []api.Object) ([]api.Object, api.Errno) {
	if e := Check(l); e != api.OK {
		return nil, e
	}
	if len(more) > api.MaxCome {
		return nil, api.ErrMany
	}
	if e := each(more, object.Check); e != api.OK {
		return nil, e
	}
	s := newShelf(l)
	if e := each(more, s.take); e != api.OK {
		return nil, e
	}
	if e := Check(s.objects); e != api.OK {
		return nil, e
	}
	return s.objects, api.OK
}

// each object is shown to see, till one has an error.
func each(l []api.Object, see func(api.Object) api.Errno) api.Errno {
	for _, o := range l {
		if e := see(o); e != api.OK {
			return e
		}
	}
	return api.OK
}

// checkLinks looks for links in all of l: whether l rises is told of each object by itself.
func checkLinks(l []api.Object, o api.Object) api.Errno {
	for i, link := range o.Links {
		at := place(l, link)
		if at < 0 {
			return api.ErrNone
		}
		if !mayLink(o.Kind, i, l[at].Kind) {
			return api.ErrKind
		}
	}
	return api.OK
}

// mayLink: may link i of an object of a kind be to one of kind to?
func mayLink(kind, i, to int) bool {
	switch {
	case kind == api.Tree:
		return to == api.Blob || to == api.Tree
	case kind == api.Commit && i == 0:
		return to == api.Tree
	case kind == api.Commit:
		return to == api.Commit
	}
	return false
}
