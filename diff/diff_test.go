package diff

import (
	"fmt"
	"math"
	"reflect"
	"slices"
	"strings"
	"testing"

	"forestay/api"
	"forestay/refs"
	"forestay/store"
	"forestay/update"
)

func obj(id, kind int, text string, links ...int) api.Object {
	return api.Object{Id: id, Kind: kind, Links: links, Text: text}
}

func ref(name string, id int) api.Ref { return api.Ref{Name: name, Id: id} }

func refsOf(l ...api.Ref) []api.Ref { return l }

// history: commit 3, then 6 and 7 from it, and 8 from both.
func history() []api.Object {
	return []api.Object{obj(1, api.Blob, "one"), obj(2, api.Tree, "", 1), obj(3, api.Commit, "c1", 2), obj(4, api.Blob, "two"), obj(5, api.Tree, "", 1, 2, 4), obj(6, api.Commit, "c2", 5, 3), obj(7, api.Commit, "c3", 2, 3), obj(8, api.Commit, "c4", 5, 6, 7)}
}

// blobs: a store of n blobs, from an id on.
func blobs(first, n int) []api.Object {
	var l []api.Object
	for i := range n {
		l = append(l, obj(first+i, api.Blob, ""))
	}
	return l
}

// with: history, of which one object was changed.
func with(at int, o api.Object) []api.Object {
	l := history()
	l[at] = o
	return l
}

func expectObjects(t *testing.T, from, to, want []api.Object, wantErr api.Errno) {
	t.Helper()
	l, e := Objects(from, to)
	if fmt.Sprint(l) != fmt.Sprint(want) || e != wantErr {
		t.Errorf("Objects of %v and %v is %v %d, must be %v %d", from, to, l, e, want, wantErr)
	}
}

func TestJ1Objects(t *testing.T) {
	for n := range 9 {
		expectObjects(t, history(), history()[:n], history()[n:], api.OK)
		expectObjects(t, history()[:n], history(), nil, api.OK)
	}
	expectObjects(t, nil, nil, nil, api.OK)
	expectObjects(t, []api.Object{}, []api.Object{}, nil, api.OK)
	// What to alone has is not told; what is told need not be the last ones.
	odd := []api.Object{obj(1, api.Blob, "one"), obj(3, api.Blob, ""), obj(97, api.Blob, "")}
	even := []api.Object{obj(1, api.Blob, "one"), obj(2, api.Tree, "", 1), obj(98, api.Tree, "")}
	expectObjects(t, odd, even, odd[1:], api.OK)
	expectObjects(t, even, odd, even[1:], api.OK)
	// Two full stores without one id in both.
	expectObjects(t, blobs(1, 40), blobs(60, 40), blobs(1, 40), api.OK)
	expectObjects(t, blobs(60, 40), blobs(1, 40), blobs(60, 40), api.OK)
	expectObjects(t, blobs(1, 40), blobs(2, 40), blobs(1, 1), api.OK)
}

func TestJ1ObjectsThatAreOther(t *testing.T) {
	for _, other := range [][]api.Object{
		with(0, obj(1, api.Blob, "two")),
		with(0, obj(1, api.Blob, "")),
		with(3, obj(4, api.Tree, "two")),
		with(4, obj(5, api.Tree, "", 1, 2)),
		with(4, obj(5, api.Tree, "", 1, 4)),
		with(5, obj(6, api.Commit, "c2", 2, 3)),
		with(5, obj(6, api.Commit, "c2", 5)),
		with(7, obj(8, api.Commit, "c5", 5, 6, 7)),
	} {
		if e := store.Check(other); e != api.OK {
			t.Fatalf("%v is no store: %d", other, e)
		}
		expectObjects(t, history(), other, nil, api.ErrTwice)
		expectObjects(t, other, history(), nil, api.ErrTwice)
	}
	// Though others are missing ahead of it.
	expectObjects(t, append(blobs(1, 1), obj(50, api.Blob, "a")), blobs(50, 1), nil, api.ErrTwice)
	// Without links is the same, whether the list is empty or none.
	empty := with(0, api.Object{Id: 1, Kind: api.Blob, Links: []int{}, Text: "one"})
	expectObjects(t, history(), empty, nil, api.OK)
	expectObjects(t, empty, history(), nil, api.OK)
}

var badStores = []struct {
	l    []api.Object
	want api.Errno
}{
	{make([]api.Object, 41), api.ErrMany},
	{blobs(1, 41), api.ErrMany},
	{make([]api.Object, 1), api.ErrRange},
	{[]api.Object{obj(100, api.Blob, "")}, api.ErrRange},
	{[]api.Object{obj(1, 9, "")}, api.ErrKind},
	{[]api.Object{obj(1, api.Blob, "ninebytes")}, api.ErrMany},
	{[]api.Object{obj(2, api.Blob, ""), obj(1, api.Blob, "")}, api.ErrState},
	{[]api.Object{obj(1, api.Blob, ""), obj(1, api.Blob, "")}, api.ErrState},
	{[]api.Object{obj(1, api.Commit, "")}, api.ErrForm},
	{history()[1:], api.ErrNone},
	{[]api.Object{obj(1, api.Blob, ""), obj(2, api.Commit, "", 1)}, api.ErrKind},
}

func TestJ1ObjectsOfWhatIsNoStore(t *testing.T) {
	for _, c := range badStores {
		for _, good := range [][]api.Object{nil, history(), with(0, obj(1, api.Blob, "other"))} {
			expectObjects(t, c.l, good, nil, c.want)
			expectObjects(t, good, c.l, nil, c.want)
		}
		// That of from is ahead of that of to.
		for _, d := range badStores {
			expectObjects(t, c.l, d.l, nil, c.want)
		}
	}
}

func expectRefs(t *testing.T, from, to []api.Ref, want string) {
	t.Helper()
	l, e := Refs(from, to)
	if got := fmt.Sprint(l); got != want || e != api.OK {
		t.Errorf("Refs of %v and %v is %s %d, must be %s", from, to, got, e, want)
	}
}

func expectNoRefs(t *testing.T, from, to []api.Ref, want api.Errno) {
	t.Helper()
	if l, e := Refs(from, to); len(l) > 0 || e != want {
		t.Errorf("Refs of %v and %v is %v %d, must be nothing, and %d", from, to, l, e, want)
	}
}

func TestJ1Refs(t *testing.T) {
	expectRefs(t, nil, nil, "[]")
	expectRefs(t, []api.Ref{}, nil, "[]")
	expectRefs(t, refsOf(ref("main", 3)), nil, "[{main 0 3}]")
	expectRefs(t, nil, refsOf(ref("main", 3)), "[{main 3 0}]")
	expectRefs(t, refsOf(ref("main", 6)), refsOf(ref("main", 3)), "[{main 3 6}]")
	expectRefs(t, refsOf(ref("main", 3)), refsOf(ref("main", 3)), "[]")
	expectRefs(t, refsOf(ref("b", 1), ref("d", 2), ref("e", 5)), refsOf(ref("a", 1), ref("c", 2), ref("e", 6), ref("f", 7)), "[{a 1 0} {b 0 1} {c 2 0} {d 0 2} {e 6 5} {f 7 0}]")
	// Byte by byte, a shorter one that is a beginning ahead; a name that is a place is let through.
	expectRefs(t, refsOf(ref("a-", 1), ref("a/b", 2), ref("a0", 3), ref("aa", 4)), refsOf(ref("a", 9), ref("a-b", 8)), "[{a 9 0} {a- 0 1} {a-b 8 0} {a/b 0 2} {a0 0 3} {aa 0 4}]")
}

// TestJ1RefsOfWhateverId: an id is not looked at, and a name that is of 0 is another thing than one that is not there.
func TestJ1RefsOfWhateverId(t *testing.T) {
	expectRefs(t, refsOf(ref("a", 0)), nil, "[{a 0 0}]")
	expectRefs(t, nil, refsOf(ref("a", 0)), "[{a 0 0}]")
	expectRefs(t, refsOf(ref("a", 0)), refsOf(ref("a", 0)), "[]")
	expectRefs(t, refsOf(ref("a", 0)), refsOf(ref("a", 5)), "[{a 5 0}]")
	expectRefs(t, refsOf(ref("a", 5)), refsOf(ref("a", 0)), "[{a 0 5}]")
	expectRefs(t, refsOf(ref("a", -1), ref("b", 100)), refsOf(ref("c", -7)), "[{a 0 -1} {b 0 100} {c -7 0}]")
	expectRefs(t, refsOf(ref("a", math.MinInt)), refsOf(ref("a", math.MaxInt)), fmt.Sprintf("[{a %d %d}]", math.MaxInt, math.MinInt))
}

// eight: as many refs as there may be, whose names begin so.
func eight(begin string) []api.Ref {
	var l []api.Ref
	for i := range 8 {
		l = append(l, ref(fmt.Sprint(begin, i), i+1))
	}
	return l
}

func TestJ1RefsAsManyAsThereMayBe(t *testing.T) {
	l, e := Refs(eight("b"), eight("a"))
	if len(l) != 16 || e != api.OK || l[0] != (api.Update{Name: "a0", Old: 1}) || l[15] != (api.Update{Name: "b7", New: 8}) {
		t.Errorf("Refs of two full lists is %v %d", l, e)
	}
	nine := append(eight("a"), ref("b", 1))
	for _, m := range [][]api.Ref{nil, eight("a"), nine, refsOf(ref("X", 1)), refsOf(ref("b", 1), ref("a", 1))} {
		expectNoRefs(t, nine, m, api.ErrMany)
		expectNoRefs(t, m, nine, api.ErrMany)
	}
}

func TestJ1RefsErrors(t *testing.T) {
	long, form := refsOf(ref("a", 1), ref(strings.Repeat("a", 13), 3)), refsOf(ref("a", 1), ref("A", 3))
	unsorted := refsOf(ref("b", 3), ref("a", 3))
	for _, l := range [][]api.Ref{unsorted, refsOf(ref("a", 3), ref("a", 3)), refsOf(ref("a", 3), ref("b", 3), ref("b", 4)), refsOf(ref("aa", 3), ref("a", 3)), refsOf(ref("a/b", 3), ref("a-", 3)), refsOf(ref("a", 1), ref("c", 1), ref("b", 1))} {
		expectNoRefs(t, l, nil, api.ErrState)
		expectNoRefs(t, nil, l, api.ErrState)
		expectNoRefs(t, l, l, api.ErrState)
		expectNoRefs(t, l, eight("a"), api.ErrState)
		// Names, of whichever list, are ahead of how they rise.
		expectNoRefs(t, l, form, api.ErrForm)
		expectNoRefs(t, form, l, api.ErrForm)
		expectNoRefs(t, l, long, api.ErrMany)
		expectNoRefs(t, long, l, api.ErrMany)
	}
	// Those of from are ahead of those of to, and the first name tells.
	expectNoRefs(t, long, form, api.ErrMany)
	expectNoRefs(t, form, long, api.ErrForm)
	expectNoRefs(t, refsOf(form[1], long[1]), nil, api.ErrForm)
	expectNoRefs(t, refsOf(long[1], form[1]), nil, api.ErrMany)
	expectNoRefs(t, append(slices.Clone(unsorted), form[1]), long, api.ErrForm)
	for _, name := range []string{"", "/", "/a", "a/", "a//b", "a b", "a\x00", "Ä", "\xff", "a_b"} {
		expectNoRefs(t, refsOf(ref(name, 3)), nil, api.ErrForm)
		expectNoRefs(t, nil, refsOf(ref(name, 3)), api.ErrForm)
	}
	expectRefs(t, refsOf(ref(strings.Repeat("a", 12), 3)), nil, "[{aaaaaaaaaaaa 0 3}]")
}

// draw numbers, the same each time.
type draw uint64

func (d *draw) below(n int) int {
	*d = *d*6364136223846793005 + 1442695040888963407
	return int(uint64(*d) >> 33 % uint64(n))
}

// store of objects of history, all of whose links are there.
func (d *draw) store() []api.Object {
	var l []api.Object
	for _, o := range history() {
		if d.below(4) == 0 {
			continue
		}
		if more := append(slices.Clone(l), o); store.Check(more) == api.OK {
			l = more
		}
	}
	return l
}

// TestJ2WhoTakesWhatItHasNot has what the other one has, and what it had.
func TestJ2WhoTakesWhatItHasNot(t *testing.T) {
	d := new(draw)
	for range 500 {
		from, to := d.store(), d.store()
		come, e := Objects(from, to)
		if e != api.OK {
			t.Fatalf("Objects of %v and %v is %d", from, to, e)
		}
		both, e := store.Add(to, come)
		if e != api.OK {
			t.Fatalf("what %v has not of %v can't come: %d", to, from, e)
		}
		if left, e := Objects(from, both); len(left) > 0 || e != api.OK {
			t.Fatalf("%v still has not %v", both, left)
		}
		if len(both) != len(to)+len(come) {
			t.Fatalf("%v had some of %v already", to, come)
		}
	}
}

// names of a list, of commits of history.
func (d *draw) names() []api.Ref {
	var l []api.Ref
	for _, name := range []string{"a", "b/c", "b/d", "main"} {
		if d.below(3) > 0 {
			l = append(l, ref(name, []int{3, 6, 7, 8}[d.below(4)]))
		}
	}
	return l
}

// TestJ2Refs: the updates lead from the refs of to to those of from.
func TestJ2Refs(t *testing.T) {
	d := new(draw)
	for range 500 {
		from, to := d.names(), d.names()
		us, e := Refs(from, to)
		if e != api.OK || refs.Check(from, history()) != api.OK {
			t.Fatalf("Refs of %v and %v is %d", from, to, e)
		}
		if len(us) == 0 {
			if fmt.Sprint(from) != fmt.Sprint(to) {
				t.Fatalf("%v and %v are told to be alike", from, to)
			}
			continue
		}
		if got, e := update.Apply(to, history(), us, true); fmt.Sprint(got) != fmt.Sprint(from) || e != api.OK {
			t.Fatalf("%v lead from %v to %v %d, must lead to %v", us, to, got, e, from)
		}
	}
}

// rooms of all lists in a value, spare room too: where each begins and ends.
func rooms(v reflect.Value) [][2]uintptr {
	var l [][2]uintptr
	switch v.Kind() {
	case reflect.Struct:
		for i := range v.NumField() {
			l = append(l, rooms(v.Field(i))...)
		}
	case reflect.Slice:
		if v.Cap() > 0 {
			l = append(l, [2]uintptr{v.Pointer(), v.Pointer() + uintptr(v.Cap())*v.Type().Elem().Size()})
		}
		for i := range v.Len() {
			l = append(l, rooms(v.Index(i))...)
		}
	}
	return l
}

func TestP2Objects(t *testing.T) {
	links := []int{1, 2, 4, 77}
	all := append(make([]api.Object, 0, 20), history()...)
	all[1].Links, all[4].Links = links[:1], links[:3]
	all[:9][8] = obj(91, api.Blob, "spare")
	was := fmt.Sprint(all[:9], links)
	from, to := all[:8], all[:1]
	got, e := Objects(from, to)
	if e != api.OK || fmt.Sprint(all[:9], links) != was {
		t.Fatalf("errno %d; it was %s, and is %v %v", e, was, all[:9], links)
	}
	own := rooms(reflect.ValueOf(got))
	for i, a := range own {
		for _, b := range append(own[:i:i], rooms(reflect.ValueOf(from))...) {
			if a[0] < b[1] && b[0] < a[1] {
				t.Fatalf("two lists share memory: %v", got)
			}
		}
	}
	first := fmt.Sprint(got)
	clear(got[0].Links)
	clear(got)
	if again, _ := Objects(from, to); fmt.Sprint(again) != first {
		t.Errorf("it was %s, and then %v", first, again)
	}
}

func TestP2Refs(t *testing.T) {
	all := refsOf(ref("a", 3), ref("b", 6), ref("c", 7), ref("spare", 9))
	was := fmt.Sprint(all)
	// Both are of one memory, so that a list that grows in place would change the other one.
	from, to := all[:1], all[1:3]
	got, e := Refs(from, to)
	if e != api.OK || fmt.Sprint(all) != was {
		t.Fatalf("errno %d; it was %s, and is %v", e, was, all)
	}
	first := fmt.Sprint(got)
	clear(got)
	if again, _ := Refs(from, to); fmt.Sprint(again) != first || first != "[{a 0 3} {b 6 0} {c 7 0}]" {
		t.Errorf("it was %s, and then %v", first, again)
	}
}
