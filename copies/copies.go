// Package copies makes what a layer hands out new memory, so that no caller's change is seen by another one.
package copies

import "forestay/api"

// Object with links of its own.
func Object(o api.Object) api.Object {
	o.Links = append([]int(nil), o.Links...)
	return o
}

// Objects, each with links of its own.
func Objects(l []api.Object) []api.Object {
	var own []api.Object
	for _, o := range l {
		own = append(own, Object(o))
	}
	return own
}

// Push with lists of its own.
func Push(p api.Push) api.Push {
	p.Objects = Objects(p.Objects)
	p.Updates = append([]api.Update(nil), p.Updates...)
	return p
}

// Replica with lists of its own, those of what it holds apart too.
func Replica(r api.Replica) api.Replica {
	r.Store = Objects(r.Store)
	r.Refs = append([]api.Ref(nil), r.Refs...)
	r.Pending = Push(r.Pending)
	return r
}

// Cluster with replicas of its own.
func Cluster(c api.Cluster) api.Cluster {
	var own api.Cluster
	for _, r := range c.Replicas {
		own.Replicas = append(own.Replicas, Replica(r))
	}
	return own
}
