package repair

import "forestay/api"

// mender of a cluster, which is its own, so that it may change it.
type mender struct {
	api.Cluster
	mended int
}

// mend each replica of another Gen; become tells what comes of it.
func (m *mender) mend(gen int, become func(api.Replica) (api.Replica, api.Errno)) api.Errno {
	for i, r := range m.Replicas {
		if r.Gen == gen {
			continue
		}
		made, e := become(r)
		if e != api.OK {
			return e
		}
		m.Replicas[i] = made
		m.mended++
	}
	return api.OK
}
