// Package copies makes what a layer hands out new memory, so that no caller's change is seen by another one.
package copies

import "forestay/api"

// Object with links of its own.
func Object(o api.Object) api.Object {
	o.Links = append([]int(nil), o.Links...)
	return o
}
