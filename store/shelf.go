package store

import (
	"slices"

	"forestay/api"
	"forestay/copies"
)

// shelf holds objects of its own, rising by id, while others come to it.
type shelf struct{ objects []api.Object }

func newShelf(l []api.Object) *shelf {
	return &shelf{objects: copies.Objects(l)}
}

// take an object to its place; what is there already stays as it was.
func (s *shelf) take(o api.Object) api.Errno {
	if at := place(s.objects, o.Id); at >= 0 {
		if !same(s.objects[at], o) {
			return api.ErrTwice
		}
		return api.OK
	}
	s.objects = slices.Insert(s.objects, countBelow(s.objects, o.Id), copies.Object(o))
	return api.OK
}

// place of the first object of an id, or -1.
func place(l []api.Object, id int) int {
	return slices.IndexFunc(l, func(o api.Object) bool { return o.Id == id })
}

func countBelow(l []api.Object, id int) int {
	n := 0
	for _, o := range l {
		if o.Id < id {
			n++
		}
	}
	return n
}

func same(a, b api.Object) bool {
	return a.Id == b.Id && a.Kind == b.Kind && a.Text == b.Text && slices.Equal(a.Links, b.Links)
}
