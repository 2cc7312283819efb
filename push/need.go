package push

import (
	"slices"

	"forestay/api"
)

// need gathers ids that are asked for, and that neither a store nor what comes has.
type need struct {
	store, come []api.Object
	ids         []int
}

func (n *need) ask(ids ...int) {
	for _, id := range ids {
		if !has(n.store, id) && !has(n.come, id) && !slices.Contains(n.ids, id) {
			n.ids = append(n.ids, id)
		}
	}
}

// askNew: an update that takes a name away asks for no object.
func (n *need) askNew(u api.Update) {
	if u.New != 0 {
		n.ask(u.New)
	}
}

func has(l []api.Object, id int) bool {
	return slices.ContainsFunc(l, func(o api.Object) bool { return o.Id == id })
}
