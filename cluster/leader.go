package cluster

import (
	"forestay/api"
	"forestay/replica"
)

// leader of a push: the cluster is its own, so that it may change it.
type leader struct {
	api.Cluster
	// votes, each in its replica's place: an empty one is of who takes no part, as no replica casts one.
	votes [api.Replicas]string
}

// ask all that are up and Idle to hold a push apart, and to vote.
func (l *leader) ask(p api.Push, up int) api.Errno {
	for i, r := range l.Replicas {
		if !hasBit(up, i) || r.Phase != api.Idle {
			continue
		}
		prepared, e := replica.Prepare(r, p)
		if e != api.OK {
			return e
		}
		l.Replicas[i], l.votes[i], e = replica.Vote(prepared)
		if e != api.OK {
			return e
		}
	}
	return api.OK
}

// finish the push at all that voted; commits tells of each one how.
func (l *leader) finish(commits func(i int) bool) api.Errno {
	for i, r := range l.Replicas {
		if l.votes[i] == "" {
			continue
		}
		finished, e := replica.Finish(r, commits(i))
		if e != api.OK {
			return e
		}
		l.Replicas[i] = finished
	}
	return api.OK
}

// areBits: has a number bits of replicas alone?
func areBits(n int) bool { return n >= 0 && n < 1<<api.Replicas }

func hasBit(n, i int) bool { return n>>i&1 == 1 }
