// Package object: objects: see doc/01-object.md.
package object

import "forestay/api"

// Check an object.
func Check(o api.Object) api.Errno {
	switch {
	case o.Id < 1 || o.Id > api.MaxId:
		return api.ErrRange
	case o.Kind < api.Blob || o.Kind > api.Commit:
		return api.ErrKind
	case len(o.Links) > api.MaxLinks || len(o.Text) > api.MaxText:
		return api.ErrMany
	}
	if e := checkLinks(o); e != api.OK {
		return e
	}
	if o.Kind == api.Blob && len(o.Links) > 0 || o.Kind == api.Commit && len(o.Links) == 0 {
		return api.ErrForm
	}
	return api.OK
}

func checkLinks(o api.Object) api.Errno {
	last := 0
	for i, link := range o.Links {
		if link < 1 || link >= o.Id {
			return api.ErrRange
		}
		if link <= last {
			return api.ErrState
		}
		// A commit's first link is its tree, which its parents need not rise above.
		if o.Kind != api.Commit || i > 0 {
			last = link
		}
	}
	return api.OK
}

// Encode an object.
func Encode(o api.Object) (string, api.Errno) {
	if e := Check(o); e != api.OK {
		return "", e
	}
	var w writer
	w.put(o.Id, o.Kind, len(o.Links))
	w.put(o.Links...)
	w.put(len(o.Text))
	return string(w.bytes) + o.Text, api.OK
}

// Decode an object.
func Decode(s string) (api.Object, int, api.Errno) {
	o, n, e := read(s)
	if e == api.OK {
		e = Check(o)
	}
	if e != api.OK {
		return api.Object{}, 0, e
	}
	return o, n, api.OK
}
