package store

import (
	"fmt"
	"math"
	"slices"
	"testing"

	"forestay/api"
)

func obj(id, kind int, text string, links ...int) api.Object {
	return api.Object{Id: id, Kind: kind, Links: links, Text: text}
}

func blob(id int) api.Object { return obj(id, api.Blob, "") }

func tree(id int, links ...int) api.Object { return obj(id, api.Tree, "", links...) }

func commit(id int, links ...int) api.Object { return obj(id, api.Commit, "", links...) }

// blobs of ids from first to last.
func blobs(first, last int) []api.Object {
	var l []api.Object
	for id := first; id <= last; id++ {
		l = append(l, blob(id))
	}
	return l
}

// history: a store in which each kind links to each that it may.
func history() []api.Object {
	return []api.Object{obj(1, api.Blob, "one"), tree(2, 1), obj(3, api.Commit, "c1", 2), obj(4, api.Blob, "two"), tree(5, 1, 2, 4), obj(6, api.Commit, "c2", 5, 3), obj(7, api.Commit, "c3", 2, 3), obj(8, api.Commit, "c4", 5, 6, 7)}
}

// text of objects, in which an empty list and none are the same.
func text(l ...api.Object) string { return fmt.Sprint(l) }

type storeCase struct {
	name string
	l    []api.Object
	want api.Errno
}

var goodStores = []storeCase{
	{"none", nil, api.OK},
	{"an empty list", []api.Object{}, api.OK},
	{"one", blobs(1, 1), api.OK},
	{"as many as may be", blobs(1, 40), api.OK},
	{"ids with gaps", []api.Object{blob(3), blob(50), tree(99, 3, 50)}, api.OK},
	{"history", history(), api.OK},
	{"an empty tree", []api.Object{tree(1), tree(2, 1), commit(3, 1)}, api.OK},
}

var badStores = []storeCase{
	{"one too many", blobs(1, 41), api.ErrMany},
	{"too many ahead of an object", make([]api.Object, 41), api.ErrMany},
	{"an object without anything", []api.Object{{}}, api.ErrRange},
	{"an object of no kind", []api.Object{blob(1), obj(2, 9, "")}, api.ErrKind},
	{"an object with too long a text", []api.Object{obj(1, api.Blob, "123456789")}, api.ErrMany},
	{"a blob with a link", []api.Object{blob(1), obj(2, api.Blob, "", 1)}, api.ErrForm},
	{"ids that fall", []api.Object{blob(2), blob(1)}, api.ErrState},
	{"the last id falls", []api.Object{blob(1), blob(2), blob(5), blob(4)}, api.ErrState},
	{"an object twice", []api.Object{blob(1), blob(1)}, api.ErrState},
	{"a link to none", []api.Object{tree(2, 1)}, api.ErrNone},
	{"a second link to none", []api.Object{blob(1), tree(5, 1, 2)}, api.ErrNone},
	{"a parent that is none", []api.Object{tree(1), commit(5, 1, 2)}, api.ErrNone},
	{"a tree of a commit", []api.Object{tree(1), commit(2, 1), tree(3, 2)}, api.ErrKind},
	{"a tree of a blob and a commit", []api.Object{blob(1), tree(2), commit(3, 2), tree(4, 1, 3)}, api.ErrKind},
	{"a commit of a blob", []api.Object{blob(1), commit(2, 1)}, api.ErrKind},
	{"a commit of a commit", []api.Object{tree(1), commit(2, 1), commit(3, 2)}, api.ErrKind},
	{"a parent that is a tree", []api.Object{tree(1), commit(2, 1, 1)}, api.ErrKind},
	{"a parent that is a blob", []api.Object{tree(1), blob(2), commit(3, 1, 2)}, api.ErrKind},
	{"a last parent that is a tree", []api.Object{tree(1), commit(2, 1), tree(3), commit(4, 1, 2, 3)}, api.ErrKind},
	{"of one object Check ahead of rising", []api.Object{blob(5), obj(5, 9, "")}, api.ErrKind},
	{"of one object rising ahead of links", []api.Object{blob(5), tree(4, 2)}, api.ErrState},
	{"an earlier object that falls ahead of a later one's Check", []api.Object{blob(2), blob(1), {}}, api.ErrState},
	{"an earlier object's link ahead of a later one that falls", []api.Object{tree(5, 1), blob(4)}, api.ErrNone},
	{"an earlier link's kind ahead of a later one to none", []api.Object{blob(1), commit(9, 1, 5)}, api.ErrKind},
	{"an earlier link to none ahead of a later one's kind", []api.Object{tree(2), commit(9, 1, 2)}, api.ErrNone},
	{"a link to one that is there, but does not rise", []api.Object{tree(2, 1), blob(1)}, api.ErrState},
	{"a link to one of a wrong kind that does not rise", []api.Object{commit(2, 1), blob(1)}, api.ErrKind},
}

func TestB1Check(t *testing.T) {
	for _, c := range slices.Concat(goodStores, badStores) {
		if e := Check(c.l); e != c.want {
			t.Errorf("%s: Check is %d, must be %d", c.name, e, c.want)
		}
	}
}

func TestB1Find(t *testing.T) {
	for _, want := range history() {
		if o, e := Find(history(), want.Id); text(o) != text(want) || e != api.OK {
			t.Errorf("Find %d is %v %d, must be %v", want.Id, o, e, want)
		}
	}
	for _, id := range []int{0, -1, 9, 99, 100, math.MinInt, math.MaxInt} {
		if o, e := Find(history(), id); text(o) != text(api.Object{}) || e != api.ErrNone {
			t.Errorf("Find %d is %v %d, must be none", id, o, e)
		}
	}
	if _, e := Find(nil, 1); e != api.ErrNone {
		t.Errorf("Find in an empty store has errno %d", e)
	}
}

func TestB1FindInWhatIsNoStore(t *testing.T) {
	for _, c := range badStores {
		for _, id := range []int{1, 77} {
			if o, e := Find(c.l, id); text(o) != text(api.Object{}) || e != c.want {
				t.Errorf("%s: Find %d is %v %d, must be nothing, and %d", c.name, id, o, e, c.want)
			}
		}
	}
}

func TestB1AddInWhateverOrder(t *testing.T) {
	want := text(history()...)
	for n := range len(history()) + 1 {
		l, more := history()[:n], history()[n:]
		for range len(more) + 1 {
			if got, e := Add(l, more); text(got...) != want || e != api.OK {
				t.Errorf("Add of %v to %v is %v %d", more, l, got, e)
			}
			slices.Reverse(more)
			if got, e := Add(l, more); text(got...) != want || e != api.OK {
				t.Errorf("Add of %v to %v is %v %d", more, l, got, e)
			}
			slices.Reverse(more)
			if len(more) > 0 {
				more = append(more[1:], more[0])
			}
		}
	}
}

func TestB1AddAheadOfAndBetween(t *testing.T) {
	got, e := Add([]api.Object{blob(10), blob(20)}, []api.Object{blob(15), tree(30, 5), blob(5)})
	if want := text(blob(5), blob(10), blob(15), blob(20), tree(30, 5)); text(got...) != want || e != api.OK {
		t.Errorf("it is %v %d, must be %s", got, e, want)
	}
}

func TestB1AddWhatIsThere(t *testing.T) {
	empty := obj(1, api.Blob, "one")
	empty.Links = []int{}
	for _, more := range [][]api.Object{nil, {}, history(), {history()[7], history()[7]}, {empty}} {
		if got, e := Add(history(), more); text(got...) != text(history()...) || e != api.OK {
			t.Errorf("Add of %v is %v %d, must be as it was", more, got, e)
		}
	}
	got, e := Add(nil, []api.Object{obj(9, api.Blob, "a"), obj(9, api.Blob, "a"), obj(9, api.Blob, "a")})
	if want := text(obj(9, api.Blob, "a")); text(got...) != want || e != api.OK {
		t.Errorf("it is %v %d, must be %s", got, e, want)
	}
}

func TestB1AddLimits(t *testing.T) {
	if got, e := Add(nil, blobs(1, 12)); len(got) != 12 || e != api.OK {
		t.Errorf("of as many as may come are %d %d", len(got), e)
	}
	if got, e := Add(blobs(1, 28), blobs(29, 40)); len(got) != 40 || e != api.OK {
		t.Errorf("of as many as may be are %d %d", len(got), e)
	}
	if got, e := Add(blobs(1, 40), blobs(29, 40)); len(got) != 40 || e != api.OK {
		t.Errorf("of a full store and what it has are %d %d", len(got), e)
	}
}

func TestB1AddErrors(t *testing.T) {
	for _, c := range []struct {
		name    string
		l, more []api.Object
		want    api.Errno
	}{
		{"too many come", nil, blobs(1, 13), api.ErrMany},
		{"too many come, all of them there", blobs(1, 13), blobs(1, 13), api.ErrMany},
		{"too many come ahead of their Check", nil, make([]api.Object, 13), api.ErrMany},
		{"an object that comes without anything", history(), []api.Object{{}}, api.ErrRange},
		{"an object that comes of no kind", history(), []api.Object{obj(9, 4, "")}, api.ErrKind},
		{"there with another text", history(), []api.Object{obj(1, api.Blob, "eno")}, api.ErrTwice},
		{"there with another kind", history(), []api.Object{obj(1, api.Tree, "one")}, api.ErrTwice},
		{"there with another link", history(), []api.Object{tree(5, 1, 2, 3)}, api.ErrTwice},
		{"there with fewer links", history(), []api.Object{tree(5, 1, 2)}, api.ErrTwice},
		{"there with more links", history(), []api.Object{tree(5, 1, 2, 3, 4)}, api.ErrTwice},
		{"comes twice, unlike", nil, []api.Object{obj(9, api.Blob, "a"), obj(9, api.Blob, "b")}, api.ErrTwice},
		{"comes twice, unlike, with others between", nil, []api.Object{obj(9, api.Blob, "a"), blob(1), blob(20), obj(9, api.Blob, "b")}, api.ErrTwice},
		{"Check of each ahead of one that is other", history(), []api.Object{obj(1, api.Blob, "eno"), {}}, api.ErrRange},
		{"one that is other ahead of a link to none", history(), []api.Object{tree(30, 20), obj(1, api.Blob, "eno")}, api.ErrTwice},
		{"one that is other ahead of too many in all", blobs(1, 40), []api.Object{blob(50), obj(1, api.Blob, "eno")}, api.ErrTwice},
		{"too many in all", blobs(1, 40), blobs(50, 50), api.ErrMany},
		{"too many in all by the last one", blobs(1, 29), blobs(30, 41), api.ErrMany},
		{"too many in all ahead of a link to none", blobs(1, 40), []api.Object{tree(60, 50)}, api.ErrMany},
		{"a link to none", history(), []api.Object{tree(11, 9)}, api.ErrNone},
		{"a tree of a commit", history(), []api.Object{tree(9, 3)}, api.ErrKind},
		{"a commit of a commit", history(), []api.Object{commit(9, 3)}, api.ErrKind},
		{"a parent that is a tree", history(), []api.Object{commit(9, 2, 5)}, api.ErrKind},
		{"a blob that comes ahead of whom it suits not", []api.Object{}, []api.Object{commit(9, 1), blob(1)}, api.ErrKind},
	} {
		if got, e := Add(c.l, c.more); len(got) != 0 || e != c.want {
			t.Errorf("%s: Add is %v %d, must be nothing, and %d", c.name, got, e, c.want)
		}
	}
}

func TestB1AddToWhatIsNoStore(t *testing.T) {
	for _, c := range badStores {
		for _, more := range [][]api.Object{nil, blobs(50, 50), make([]api.Object, 13)} {
			if got, e := Add(c.l, more); len(got) != 0 || e != c.want {
				t.Errorf("%s: Add is %v %d, must be nothing, and %d", c.name, got, e, c.want)
			}
		}
	}
}

// draw numbers, the same each time.
type draw uint64

func (d *draw) below(n int) int {
	*d = *d*6364136223846793005 + 1442695040888963407
	return int(uint64(*d) >> 33 % uint64(n))
}

// object drawn from few ids, so that many come twice, and many links are there.
func (d *draw) object() api.Object {
	o := obj(1+d.below(12), 1+d.below(3), []string{"", "a"}[d.below(8)/7])
	for link := 1; link < o.Id && o.Kind != api.Blob; link++ {
		if len(o.Links) < api.MaxLinks && d.below(4) == 0 {
			o.Links = append(o.Links, link)
		}
	}
	return o
}

func (d *draw) objects() []api.Object {
	var l []api.Object
	for range d.below(4) {
		l = append(l, d.object())
	}
	return l
}

// expectNothingLost: all that was there or came is in the store by its id, and the store has nothing else.
func expectNothingLost(t *testing.T, was, came, is []api.Object) {
	t.Helper()
	known := slices.Concat(was, came)
	for _, want := range known {
		if o, e := Find(is, want.Id); text(o) != text(want) || e != api.OK {
			t.Fatalf("%v came to %v, and it is %v", came, was, is)
		}
	}
	for _, o := range is {
		if !slices.ContainsFunc(known, func(k api.Object) bool { return text(k) == text(o) }) {
			t.Fatalf("%v came to %v, and it is %v", came, was, is)
		}
		for _, link := range o.Links {
			if _, e := Find(is, link); e != api.OK {
				t.Fatalf("%v links to %d, which is not there", o, link)
			}
		}
	}
}

func TestB2NothingIsLost(t *testing.T) {
	d := new(draw)
	grown := 0
	for range 3000 {
		var l []api.Object
		for range 12 {
			more := d.objects()
			next, e := Add(l, more)
			if e != api.OK {
				continue
			}
			expectNothingLost(t, l, more, next)
			if len(next) > len(l) {
				grown++
			}
			l = next
		}
	}
	if grown < 1000 {
		t.Errorf("only %d stores grew: the draw does not try the promise", grown)
	}
}

// crowded: history with spare room behind each list, all of it shared as badly as a caller may.
func crowded() ([]api.Object, []int) {
	room := []int{1, 2, 4, 77, 78}
	l := append(make([]api.Object, 0, 20), history()...)
	l[4].Links = room[:3]
	l[1].Links = room[:1]
	copy(l[8:12], blobs(90, 93))
	return l, room
}

func TestP2ArgumentsAreOnlyRead(t *testing.T) {
	l, room := crowded()
	come := append(make([]api.Object, 0, 9), tree(30, 20), blob(20), blob(20))
	copy(come[3:5], blobs(94, 95))
	was, came := text(l[:12]...), text(come[:5]...)
	Check(l)
	Find(l, 5)
	if _, e := Add(l, come); e != api.OK {
		t.Fatalf("Add has errno %d", e)
	}
	if text(l[:12]...) != was || text(come[:5]...) != came || fmt.Sprint(room) != "[1 2 4 77 78]" {
		t.Errorf("they became %v, %v, %v", l[:12], come[:5], room)
	}
}

func TestP2AnswersAreNew(t *testing.T) {
	l, room := crowded()
	come := []api.Object{{Id: 9, Kind: api.Tree, Links: room[:2]}, {Id: 10, Kind: api.Tree, Links: room[:2]}}
	found, _ := Find(l, 5)
	got, e := Add(l, come)
	if e != api.OK {
		t.Fatalf("Add has errno %d", e)
	}
	want := text(slices.Concat(history(), []api.Object{tree(9, 1, 2), tree(10, 1, 2)})...)
	for i := range room {
		room[i] = 60 + i
	}
	clear(l)
	clear(come)
	if text(got...) != want || text(found) != text(tree(5, 1, 2, 4)) {
		t.Errorf("later changes are seen: %v, %v", got, found)
	}
	for i := range got {
		ahead := text(got[:i]...) + text(got[i+1:]...)
		grown := append(got[i].Links, 88)
		for k := range grown {
			grown[k] = 88
		}
		if text(got[:i]...)+text(got[i+1:]...) != ahead {
			t.Errorf("the links of %d are those of another one too", got[i].Id)
		}
	}
}
