package update

import (
	"slices"

	"forestay/api"
	"forestay/refs"
)

// queue of updates that were looked at, for the next one to be held against.
type queue struct{ ahead []api.Update }

// join the queue, if nothing is wrong with an update.
func (q *queue) join(u api.Update) api.Errno {
	if e := refs.Name(u.Name); e != api.OK {
		return e
	}
	switch {
	case !mayStand(u.Old) || !mayStand(u.New):
		return api.ErrRange
	case u.Old == 0 && u.New == 0:
		return api.ErrForm
	case slices.ContainsFunc(q.ahead, func(a api.Update) bool { return a.Name == u.Name }):
		return api.ErrTwice
	}
	q.ahead = append(q.ahead, u)
	return api.OK
}

func mayStand(id int) bool { return id >= 0 && id <= api.MaxId }
