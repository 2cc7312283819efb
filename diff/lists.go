package diff

import (
	"slices"

	"forestay/api"
	"forestay/refs"
)

// check lists of refs: each step is of all lists, ahead of the next one.
func check(lists ...[]api.Ref) api.Errno {
	for _, l := range lists {
		if len(l) > api.MaxRefs {
			return api.ErrMany
		}
	}
	for _, r := range slices.Concat(lists...) {
		if e := refs.Name(r.Name); e != api.OK {
			return e
		}
	}
	for _, l := range lists {
		if !rises(l) {
			return api.ErrState
		}
	}
	return api.OK
}

func rises(l []api.Ref) bool {
	for i := 1; i < len(l); i++ {
		if l[i].Name <= l[i-1].Name {
			return false
		}
	}
	return true
}

// names of all lists, rising, each one once.
func names(lists ...[]api.Ref) []string {
	var all []string
	for _, r := range slices.Concat(lists...) {
		all = append(all, r.Name)
	}
	slices.Sort(all)
	return slices.Compact(all)
}
