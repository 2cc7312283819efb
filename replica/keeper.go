package replica

import (
	"forestay/api"
	"forestay/copies"
	"forestay/push"
)

// keeper of a replica, whose lists are its own, so that it may change them.
type keeper struct{ api.Replica }

// during a phase of a replica its keeper does something; with an error nothing of it is seen.
func during(r api.Replica, phase int, do func(*keeper) api.Errno) (api.Replica, api.Errno) {
	if e := Check(r); e != api.OK {
		return api.Replica{}, e
	}
	if r.Phase != phase {
		return api.Replica{}, api.ErrState
	}
	k := &keeper{copies.Replica(r)}
	if e := do(k); e != api.OK {
		return api.Replica{}, e
	}
	return k.Replica, api.OK
}

// commit what is held apart.
func (k *keeper) commit() api.Errno {
	objects, names, e := push.Try(k.Replica, k.Pending)
	if e != api.OK {
		return e
	}
	if k.Gen == api.MaxGen {
		return api.ErrMany
	}
	k.Store, k.Refs, k.Gen = objects, names, k.Gen+1
	return api.OK
}

// rest: nothing is held apart any more.
func (k *keeper) rest() { k.Phase, k.Pending = api.Idle, api.Push{} }
