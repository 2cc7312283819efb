package copies

import (
	"fmt"
	"reflect"
	"testing"

	"forestay/api"
)

func TestP2ObjectHasLinksOfItsOwn(t *testing.T) {
	room := []int{1, 2, 50}
	o := api.Object{Id: 9, Kind: api.Tree, Links: room[:2], Text: "say"}
	was := fmt.Sprint(o)
	c := Object(o)
	if fmt.Sprint(c) != was {
		t.Errorf("the copy is %v, must be %s", c, was)
	}
	_ = append(c.Links, 88)
	c.Links[0] = 77
	if fmt.Sprint(o) != was || fmt.Sprint(room) != "[1 2 50]" {
		t.Errorf("what was copied became %v, %v", o, room)
	}
}

func TestP2ObjectWithoutLinks(t *testing.T) {
	room := []int{50}
	c := Object(api.Object{Id: 1, Kind: api.Blob, Links: room[:0]})
	_ = append(c.Links, 88)
	if len(c.Links) != 0 || room[0] != 50 {
		t.Errorf("the copy is %v, the room %v", c, room)
	}
}

// rooms of all lists in a value, spare room too: where each begins and ends.
func rooms(v reflect.Value) [][2]uintptr {
	var l [][2]uintptr
	switch v.Kind() {
	case reflect.Struct:
		for i := range v.NumField() {
			l = append(l, rooms(v.Field(i))...)
		}
	case reflect.Slice:
		if v.Cap() > 0 {
			l = append(l, [2]uintptr{v.Pointer(), v.Pointer() + uintptr(v.Cap())*v.Type().Elem().Size()})
		}
		for i := range v.Len() {
			l = append(l, rooms(v.Index(i))...)
		}
	}
	return l
}

// expectOwn: no list of what came shares room with another one of it, or with one of what was handed in.
func expectOwn(t *testing.T, came, handed any) {
	t.Helper()
	own := rooms(reflect.ValueOf(came))
	for i, a := range own {
		for _, b := range append(own[:i:i], rooms(reflect.ValueOf(handed))...) {
			if a[0] < b[1] && b[0] < a[1] {
				t.Fatalf("two lists share memory: %v, %v", came, handed)
			}
		}
	}
}

// crowd: objects whose links lie in one room.
func crowd() []api.Object {
	room := []int{1, 2, 3, 50, 51}
	return append(make([]api.Object, 0, 9), api.Object{Id: 8, Kind: api.Tree, Links: room[:2], Text: "a"}, api.Object{Id: 9, Kind: api.Tree, Links: room[:3], Text: "b"}, api.Object{Id: 7, Kind: api.Blob, Links: room[:0]})
}

func TestP2Objects(t *testing.T) {
	for _, l := range [][]api.Object{nil, {}, crowd()[:0], crowd()[:1], crowd()} {
		was := fmt.Sprint(l)
		own := Objects(l)
		if fmt.Sprint(own) != was {
			t.Errorf("the copy is %v, must be %s", own, was)
		}
		expectOwn(t, own, l)
	}
}

func TestP2Push(t *testing.T) {
	us := []api.Update{{Name: "a", Old: 1, New: 2}, {Name: "b", New: 9}}
	for _, p := range []api.Push{{}, {Force: true}, {Objects: crowd()}, {Updates: us[:1]}, {Updates: us[:0]}, {Objects: crowd()[:2], Updates: us, Force: true}} {
		was := fmt.Sprint(p)
		own := Push(p)
		if fmt.Sprint(own) != was {
			t.Errorf("the copy is %v, must be %s", own, was)
		}
		expectOwn(t, own, p)
	}
}

func TestP2Replica(t *testing.T) {
	l, names := crowd(), []api.Ref{{Name: "a", Id: 1}, {Name: "b", Id: 2}}
	held := api.Push{Objects: l, Updates: []api.Update{{Name: "a", New: 2}}, Force: true}
	for _, r := range []api.Replica{{}, {Gen: 5, Phase: 1}, {Store: l}, {Refs: names[:1]}, {Pending: held}, {Store: l, Refs: names, Gen: 7, Phase: 2, Pending: held}} {
		was := fmt.Sprint(r)
		own := Replica(r)
		if fmt.Sprint(own) != was {
			t.Errorf("the copy is %v, must be %s", own, was)
		}
		expectOwn(t, own, r)
	}
}

func TestP2Cluster(t *testing.T) {
	r := api.Replica{Store: crowd(), Refs: []api.Ref{{Name: "a", Id: 1}}, Gen: 3, Phase: 1, Pending: api.Push{Objects: crowd(), Updates: []api.Update{{Name: "a", New: 2}}}}
	// All of one memory: a caller may hand in the same replica thrice.
	for _, c := range []api.Cluster{{}, {Replicas: []api.Replica{}}, {Replicas: make([]api.Replica, 3)}, {Replicas: []api.Replica{r, {Gen: 5}, r, r}}} {
		was := fmt.Sprint(c)
		own := Cluster(c)
		if fmt.Sprint(own) != was {
			t.Errorf("the copy is %v, must be %s", own, was)
		}
		expectOwn(t, own, c)
	}
}
