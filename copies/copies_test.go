package copies

import (
	"fmt"
	"testing"

	"forestay/api"
)

func TestP2ObjectHasLinksOfItsOwn(t *testing.T) {
	room := []int{1, 2, 50}
	o := api.Object{Id: 9, Kind: api.Tree, Links: room[:2], Text: "say"}
	was := fmt.Sprint(o)
	c := Object(o)
	if fmt.Sprint(c) != was {
		t.Errorf("the copy is %v, must be %s", c, was)
	}
	_ = append(c.Links, 88)
	c.Links[0] = 77
	if fmt.Sprint(o) != was || fmt.Sprint(room) != "[1 2 50]" {
		t.Errorf("what was copied became %v, %v", o, room)
	}
}

func TestP2ObjectWithoutLinks(t *testing.T) {
	room := []int{50}
	c := Object(api.Object{Id: 1, Kind: api.Blob, Links: room[:0]})
	_ = append(c.Links, 88)
	if len(c.Links) != 0 || room[0] != 50 {
		t.Errorf("the copy is %v, the room %v", c, room)
	}
}
