package desk

import (
	"forestay/api"
	"forestay/cluster"
	"forestay/repair"
	"forestay/replica"
)

// clerk does acts; the cluster is its own, so that it may change it.
type clerk struct{ api.Cluster }

// checkAct: what is wrong with an act, whatever the cluster is.
func checkAct(a api.Act) api.Errno {
	switch a.Kind {
	case api.ActPush:
		if a.Of != 0 {
			return api.ErrForm
		}
	case api.ActRepair, api.ActCrash:
		if pushes(a) {
			return api.ErrForm
		}
		if a.Of < 0 || a.Of >= api.Replicas {
			return api.ErrRange
		}
	default:
		return api.ErrKind
	}
	return api.OK
}

// pushes: has an act anything that only a push may have?
func pushes(a api.Act) bool {
	p := a.Push
	return a.Up != 0 || a.Late != 0 || len(p.Objects) > 0 || len(p.Updates) > 0 || p.Force
}

// do an act that nothing is wrong with by itself.
func (k *clerk) do(a api.Act) (bool, api.Errno) {
	switch a.Kind {
	case api.ActPush:
		return k.push(a)
	case api.ActRepair:
		return k.repair(a.Of)
	}
	return k.change(a.Of, func(r api.Replica) (api.Replica, api.Errno) { return replica.Crash(r) })
}

func (k *clerk) push(a api.Act) (bool, api.Errno) {
	after, told, e := cluster.Push(k.Cluster, a.Push, a.Up, a.Late)
	k.Cluster = after
	return told, e
}

func (k *clerk) repair(of int) (bool, api.Errno) {
	at, e := cluster.Newest(k.Cluster)
	if e != api.OK {
		return false, e
	}
	newest := k.Replicas[at]
	return k.change(of, func(r api.Replica) (api.Replica, api.Errno) { return repair.From(newest, r) })
}

// change one replica; become tells what comes of it.
func (k *clerk) change(of int, become func(api.Replica) (api.Replica, api.Errno)) (bool, api.Errno) {
	made, e := become(k.Replicas[of])
	if e != api.OK {
		return false, e
	}
	k.Replicas[of] = made
	return true, api.OK
}
