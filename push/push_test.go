package push

import (
	"fmt"
	"math"
	"slices"
	"testing"

	"forestay/api"
	"forestay/refs"
	"forestay/store"
	"forestay/update"
)

func obj(id, kind int, text string, links ...int) api.Object {
	return api.Object{Id: id, Kind: kind, Links: links, Text: text}
}

func blob(id int) api.Object { return obj(id, api.Blob, "") }

func tree(id int, links ...int) api.Object { return obj(id, api.Tree, "", links...) }

func commit(id int, links ...int) api.Object { return obj(id, api.Commit, "", links...) }

func objs(l ...api.Object) []api.Object { return l }

func ref(name string, id int) api.Ref { return api.Ref{Name: name, Id: id} }

func up(name string, was, now int) api.Update { return api.Update{Name: name, Old: was, New: now} }

func ups(l ...api.Update) []api.Update { return l }

// blobs of ids from first to last.
func blobs(first, last int) []api.Object {
	var l []api.Object
	for id := first; id <= last; id++ {
		l = append(l, blob(id))
	}
	return l
}

// history: commit 3, then 6 and 7 from it, and 8 from both.
func history() []api.Object {
	return objs(obj(1, api.Blob, "one"), tree(2, 1), obj(3, api.Commit, "c1", 2), obj(4, api.Blob, "two"), tree(5, 1, 2, 4), obj(6, api.Commit, "c2", 5, 3), obj(7, api.Commit, "c3", 2, 3), obj(8, api.Commit, "c4", 5, 6, 7))
}

// young: a replica with the first commit of history alone.
func young() api.Replica {
	return api.Replica{Store: history()[:3], Refs: []api.Ref{ref("main", 3)}}
}

// text of objects, in which an empty list and none are the same.
func text(l ...api.Object) string { return fmt.Sprint(l) }

type pushCase struct {
	name string
	p    api.Push
	want api.Errno
}

var goodPushes = []pushCase{
	{"an update alone", api.Push{Updates: ups(up("main", 3, 6))}, api.OK},
	{"an empty list of objects", api.Push{Objects: objs(), Updates: ups(up("main", 3, 6))}, api.OK},
	{"objects in whatever order", api.Push{Objects: objs(commit(9, 8), blob(1), tree(8)), Updates: ups(up("main", 3, 9))}, api.OK},
	{"as many objects as may be", api.Push{Objects: blobs(1, 12), Updates: ups(up("main", 3, 9))}, api.OK},
	{"as many updates as may be", api.Push{Updates: ups(up("d", 0, 1), up("c", 0, 1), up("b", 0, 1), up("a", 0, 1))}, api.OK},
	{"an object twice, and other", api.Push{Objects: objs(blob(1), obj(1, api.Blob, "other")), Updates: ups(up("main", 3, 0))}, api.OK},
	{"links to what is not there", api.Push{Objects: objs(tree(9, 1, 2)), Updates: ups(up("main", 3, 9))}, api.OK},
	{"force", api.Push{Updates: ups(up("main", 3, 6)), Force: true}, api.OK},
}

var badPushes = []pushCase{
	{"nothing", api.Push{}, api.ErrNone},
	{"objects without updates", api.Push{Objects: blobs(1, 3)}, api.ErrNone},
	{"force without updates", api.Push{Updates: ups(), Force: true}, api.ErrNone},
	{"one object too many", api.Push{Objects: blobs(1, 13), Updates: ups(up("main", 3, 6))}, api.ErrMany},
	{"far too many objects", api.Push{Objects: make([]api.Object, 100000)}, api.ErrMany},
	{"an object without anything", api.Push{Objects: make([]api.Object, 1), Updates: ups(up("main", 3, 6))}, api.ErrRange},
	{"the last object's kind", api.Push{Objects: objs(blob(1), blob(2), obj(3, 4, "")), Updates: ups(up("main", 3, 6))}, api.ErrKind},
	{"an object's text too long", api.Push{Objects: objs(obj(1, api.Blob, "123456789")), Updates: ups(up("main", 3, 6))}, api.ErrMany},
	{"an object's links that fall", api.Push{Objects: objs(tree(5, 2, 1)), Updates: ups(up("main", 3, 6))}, api.ErrState},
	{"a commit without a tree", api.Push{Objects: objs(commit(5)), Updates: ups(up("main", 3, 6))}, api.ErrForm},
	{"too many updates", api.Push{Updates: make([]api.Update, 5)}, api.ErrMany},
	{"an update's name", api.Push{Updates: ups(up("Main", 3, 6))}, api.ErrForm},
	{"an update's number", api.Push{Updates: ups(up("main", 3, 100))}, api.ErrRange},
	{"an update's number below 0", api.Push{Updates: ups(up("main", math.MinInt, 3))}, api.ErrRange},
	{"a name twice", api.Push{Updates: ups(up("main", 3, 6), up("main", 6, 8))}, api.ErrTwice},
	{"too many objects ahead of an object", api.Push{Objects: make([]api.Object, 13), Updates: ups(up("main", 3, 6))}, api.ErrMany},
	{"too many objects ahead of updates", api.Push{Objects: blobs(1, 13)}, api.ErrMany},
	{"an object ahead of updates", api.Push{Objects: objs(obj(1, 9, ""))}, api.ErrKind},
	{"an earlier object ahead of a later one", api.Push{Objects: objs(obj(5, 9, ""), blob(0)), Updates: ups(up("A", 0, 0))}, api.ErrKind},
}

func TestF1Check(t *testing.T) {
	for _, c := range slices.Concat(goodPushes, badPushes) {
		if e := Check(c.p); e != c.want {
			t.Errorf("%s: Check is %d, must be %d", c.name, e, c.want)
		}
	}
}

func expectTried(t *testing.T, r api.Replica, p api.Push, objects []api.Object, names ...api.Ref) {
	t.Helper()
	gotObjects, gotNames, e := Try(r, p)
	if text(gotObjects...) != text(objects...) || !slices.Equal(gotNames, names) || e != api.OK {
		t.Errorf("Try of %v is %v %v %d, must be %v %v", p, gotObjects, gotNames, e, objects, names)
	}
}

func expectRefused(t *testing.T, r api.Replica, p api.Push, want api.Errno) {
	t.Helper()
	if objects, names, e := Try(r, p); len(objects) != 0 || len(names) != 0 || e != want {
		t.Errorf("Try of %v is %v %v %d, must be nothing, and %d", p, objects, names, e, want)
	}
}

func TestF1Try(t *testing.T) {
	expectTried(t, young(), api.Push{Objects: history()[3:6], Updates: ups(up("main", 3, 6))}, history()[:6], ref("main", 6))
	expectTried(t, young(), api.Push{Objects: history(), Updates: ups(up("main", 3, 8), up("b", 0, 7))}, history(), ref("b", 7), ref("main", 8))
	expectTried(t, young(), api.Push{Updates: ups(up("main", 3, 0))}, history()[:3])
	expectTried(t, young(), api.Push{Updates: ups(up("main", 3, 3))}, history()[:3], ref("main", 3))
	expectTried(t, api.Replica{}, api.Push{Objects: objs(commit(9, 5), tree(5)), Updates: ups(up("a", 0, 9))}, objs(tree(5), commit(9, 5)), ref("a", 9))
	// An object that no name reaches comes too.
	expectTried(t, young(), api.Push{Objects: blobs(50, 52), Updates: ups(up("main", 3, 0))}, append(history()[:3], blobs(50, 52)...))
	// One that is there already, just as it was, or that comes twice.
	expectTried(t, young(), api.Push{Objects: append(history()[:4], history()[3]), Updates: ups(up("n", 0, 3))}, history()[:4], ref("main", 3), ref("n", 3))
	// A ref of the replica may be of a commit that only the push has: Apply is asked behind Add.
	late := api.Replica{Store: history()[:3], Refs: []api.Ref{ref("late", 6)}}
	expectTried(t, late, api.Push{Objects: history()[3:6], Updates: ups(up("late", 6, 0))}, history()[:6])
}

func TestF1Force(t *testing.T) {
	p := api.Push{Objects: objs(commit(9, 2)), Updates: ups(up("main", 3, 9))}
	expectRefused(t, young(), p, api.ErrState)
	p.Force = true
	expectTried(t, young(), p, append(history()[:3], commit(9, 2)), ref("main", 9))
}

func TestF1TryErrors(t *testing.T) {
	for _, c := range []pushCase{
		{"a link to none", api.Push{Objects: history()[4:6], Updates: ups(up("main", 3, 6))}, api.ErrNone},
		{"a link to another kind", api.Push{Objects: objs(commit(9, 1)), Updates: ups(up("main", 3, 9))}, api.ErrKind},
		{"another object of an id", api.Push{Objects: objs(obj(3, api.Commit, "other", 2)), Updates: ups(up("main", 3, 0))}, api.ErrTwice},
		{"two objects of an id", api.Push{Objects: objs(blob(9), obj(9, api.Blob, "other")), Updates: ups(up("main", 3, 0))}, api.ErrTwice},
		{"New is not there", api.Push{Updates: ups(up("main", 3, 6))}, api.ErrNone},
		{"New is no commit", api.Push{Objects: objs(blob(9)), Updates: ups(up("main", 3, 9))}, api.ErrKind},
		{"of another Old", api.Push{Objects: history()[3:], Updates: ups(up("main", 7, 8))}, api.ErrState},
		{"a name in a name", api.Push{Updates: ups(up("main/x", 0, 3))}, api.ErrTwice},
		{"Add ahead of Apply", api.Push{Objects: objs(commit(9, 1)), Updates: ups(up("main", 7, 50))}, api.ErrKind},
		{"a link to none ahead of Apply", api.Push{Objects: objs(commit(9, 5)), Updates: ups(up("main", 7, 9))}, api.ErrNone},
		{"twice ahead of Apply", api.Push{Objects: objs(obj(1, api.Blob, "other")), Updates: ups(up("main", 7, 50))}, api.ErrTwice},
	} {
		t.Log(c.name)
		expectRefused(t, young(), c.p, c.want)
	}
	for _, c := range badPushes {
		t.Log(c.name)
		expectRefused(t, young(), c.p, c.want)
	}
}

// TestF1TryWrongReplicas: Check is ahead of what is wrong with the replica, and its store ahead of its refs.
func TestF1TryWrongReplicas(t *testing.T) {
	good := api.Push{Updates: ups(up("new", 0, 8))}
	for _, c := range []struct {
		r    api.Replica
		want api.Errno
	}{
		{api.Replica{Store: history()[1:]}, api.ErrNone},
		{api.Replica{Store: make([]api.Object, 41)}, api.ErrMany},
		{api.Replica{Store: make([]api.Object, 1)}, api.ErrRange},
		{api.Replica{Store: append(history(), blob(1))}, api.ErrState},
		{api.Replica{Store: history(), Refs: []api.Ref{ref("a", 1)}}, api.ErrKind},
		{api.Replica{Store: history(), Refs: []api.Ref{ref("a", 9)}}, api.ErrNone},
		{api.Replica{Store: history(), Refs: []api.Ref{ref("A", 3)}}, api.ErrForm},
		{api.Replica{Store: history(), Refs: []api.Ref{ref("a", 3), ref("a/b", 3)}}, api.ErrTwice},
		{api.Replica{Store: history(), Refs: make([]api.Ref, 9)}, api.ErrMany},
		{api.Replica{Store: make([]api.Object, 1), Refs: make([]api.Ref, 9)}, api.ErrRange},
	} {
		expectRefused(t, c.r, good, c.want)
		for _, bad := range badPushes {
			expectRefused(t, c.r, bad.p, bad.want)
		}
	}
	full := api.Replica{Store: blobs(1, 40)}
	expectRefused(t, full, api.Push{Objects: blobs(40, 41), Updates: ups(up("a", 0, 1))}, api.ErrMany)
	// The objects that come do not mend a store that is none.
	expectRefused(t, api.Replica{Store: history()[1:]}, api.Push{Objects: history()[:1], Updates: good.Updates}, api.ErrNone)
	// What is wrong with the refs is told behind what is wrong with Add.
	expectRefused(t, api.Replica{Store: history(), Refs: []api.Ref{ref("a", 1)}}, api.Push{Objects: objs(tree(60, 50)), Updates: good.Updates}, api.ErrNone)
}

// TestF1NothingElseIsLookedAt: Gen, Phase and Pending of a replica may be anything.
func TestF1NothingElseIsLookedAt(t *testing.T) {
	r := young()
	r.Gen, r.Phase = -5, 77
	r.Pending = api.Push{Objects: make([]api.Object, 50), Updates: make([]api.Update, 50)}
	expectTried(t, r, api.Push{Objects: history()[3:6], Updates: ups(up("main", 3, 6))}, history()[:6], ref("main", 6))
	r.Gen, r.Phase = api.MaxGen, api.Voted
	expectRefused(t, r, api.Push{Updates: ups(up("main", 3, 6))}, api.ErrNone)
}

func expectNeeds(t *testing.T, l []api.Object, p api.Push, want ...int) {
	t.Helper()
	if ids, e := Needs(l, p); !slices.Equal(ids, want) || e != api.OK {
		t.Errorf("Needs of %v is %v %d, must be %v", p, ids, e, want)
	}
}

func TestF1Needs(t *testing.T) {
	l := history()[:3]
	expectNeeds(t, l, api.Push{Objects: history()[3:6], Updates: ups(up("main", 3, 6))})
	expectNeeds(t, l, api.Push{Objects: history()[4:6], Updates: ups(up("main", 3, 6))}, 4)
	expectNeeds(t, nil, api.Push{Objects: history()[4:6], Updates: ups(up("main", 3, 6))}, 1, 2, 3, 4)
	expectNeeds(t, l, api.Push{Objects: history()[7:], Updates: ups(up("main", 3, 8))}, 5, 6, 7)
	expectNeeds(t, l, api.Push{Updates: ups(up("main", 3, 6))}, 6)
	expectNeeds(t, l, api.Push{Updates: ups(up("a", 0, 99), up("c", 0, 50), up("b", 0, 99), up("d", 0, 1))}, 50, 99)
	expectNeeds(t, nil, api.Push{Objects: history(), Updates: ups(up("main", 0, 8))})
	// Links and News are told once, and together rising.
	expectNeeds(t, l, api.Push{Objects: objs(tree(90, 70, 80), tree(60, 50, 55), tree(91, 50, 70)), Updates: ups(up("a", 0, 75), up("b", 0, 55), up("c", 0, 52))}, 50, 52, 55, 70, 75, 80)
	// Old is not needed, nor is a New of 0.
	expectNeeds(t, l, api.Push{Updates: ups(up("a", 40, 3), up("b", 41, 0))})
	expectNeeds(t, nil, api.Push{Updates: ups(up("a", 40, 0))})
	// What the push has is there, wherever in it, and whatever its kind.
	expectNeeds(t, nil, api.Push{Objects: objs(commit(9, 8), blob(8), blob(7)), Updates: ups(up("a", 0, 9), up("b", 0, 7))})
	// What an object needs is needed, though the store has another one of its id.
	expectNeeds(t, l, api.Push{Objects: objs(obj(3, api.Tree, "other", 1, 2), tree(40, 3, 30)), Updates: ups(up("a", 0, 3))}, 30)
	// What comes need not be reached.
	expectNeeds(t, l, api.Push{Objects: objs(tree(40, 30)), Updates: ups(up("main", 3, 0))}, 30)
}

// TestF1NeedsAsManyAsMayBe: twelve objects of four links each, and four updates.
func TestF1NeedsAsManyAsMayBe(t *testing.T) {
	var p api.Push
	var want []int
	for i := range api.MaxCome {
		at := 1 + 4*i
		p.Objects = append(objs(tree(99-i, at, at+1, at+2, at+3)), p.Objects...)
		want = append(want, at, at+1, at+2, at+3)
	}
	p.Updates = ups(up("a", 0, 83), up("b", 0, 82), up("c", 0, 81), up("d", 0, 80))
	expectNeeds(t, nil, p, append(want, 80, 81, 82, 83)...)
}

func TestF1NeedsErrors(t *testing.T) {
	expectNone := func(l []api.Object, p api.Push, want api.Errno) {
		t.Helper()
		if ids, e := Needs(l, p); len(ids) != 0 || e != want {
			t.Errorf("Needs of %v is %v %d, must be nothing, and %d", p, ids, e, want)
		}
	}
	for _, c := range badPushes {
		expectNone(nil, c.p, c.want)
		expectNone(history(), c.p, c.want)
		expectNone(history()[1:], c.p, api.ErrNone)
		expectNone(make([]api.Object, 41), c.p, api.ErrMany)
		expectNone(append(history(), blob(1)), c.p, api.ErrState)
	}
	for _, c := range goodPushes {
		expectNone(make([]api.Object, 1), c.p, api.ErrRange)
		expectNone(history()[1:], c.p, api.ErrNone)
	}
}

// draw numbers, the same each time.
type draw uint64

func (d *draw) below(n int) int {
	*d = *d*6364136223846793005 + 1442695040888963407
	return int(uint64(*d) >> 33 % uint64(n))
}

// some of history, and now and then something else.
func (d *draw) objects() []api.Object {
	var l []api.Object
	keep := 1 + d.below(8)
	for _, o := range history() {
		if d.below(8) < keep {
			l = append(l, o)
		}
	}
	switch d.below(10) {
	case 0:
		l = append(l, tree(9, 1+d.below(8)))
	case 1:
		l = append(l, commit(10, 2, 3+d.below(6)))
	}
	return l
}

// replica whose store is one.
func (d *draw) replica() api.Replica {
	r := api.Replica{Store: d.objects()}
	for store.Check(r.Store) != api.OK {
		r.Store = d.objects()
	}
	for _, o := range r.Store {
		if o.Kind == api.Commit && d.below(2) == 0 {
			r.Refs = append(r.Refs, ref(fmt.Sprint("n", o.Id%10), o.Id))
		}
	}
	if refs.Check(r.Refs, r.Store) != api.OK {
		r.Refs = nil
	}
	return r
}

func (d *draw) push(r api.Replica) api.Push {
	p := api.Push{Objects: d.objects(), Force: d.below(2) == 0}
	for _, name := range []string{"n3", "n6", "n7", "n8"} {
		u := up(name, 0, []int{0, 3, 6, 7, 8, 8, 10, 1}[d.below(8)])
		u.Old, _ = refs.Get(r.Refs, name)
		if u.Old+u.New > 0 && d.below(2) == 0 {
			p.Updates = append(p.Updates, u)
		}
	}
	return p
}

// lacks: what a push needs, worked out from all ids there are.
func lacks(l []api.Object, p api.Push) []int {
	var ids []int
	for id := 1; id <= api.MaxId; id++ {
		there, asked := false, false
		for _, o := range slices.Concat(l, p.Objects) {
			there = there || o.Id == id
			asked = asked || slices.Contains(o.Links, id)
		}
		for _, u := range p.Updates {
			asked = asked || u.New == id
		}
		if asked && !there {
			ids = append(ids, id)
		}
	}
	return ids
}

func TestF2WhatNeedsSomethingIsRefused(t *testing.T) {
	d := new(draw)
	needy, done, told := 0, 0, map[api.Errno]int{}
	for range 20000 {
		r := d.replica()
		p := d.push(r)
		was := fmt.Sprint(r, p)
		ids, e := Needs(r.Store, p)
		if e != Check(p) || e == api.OK && !slices.Equal(ids, lacks(r.Store, p)) {
			t.Fatalf("Needs of %v for %v is %v %d, must be %v", p, r.Store, ids, e, lacks(r.Store, p))
		}
		objects, names, f := Try(r, p)
		told[f]++
		if len(ids) > 0 {
			needy++
			if f == api.OK {
				t.Fatalf("%v needs %v, and is not refused by %v", p, ids, r)
			}
		}
		if f == api.OK {
			done++
			expectDone(t, r, p, objects, names)
		} else if len(objects) != 0 || len(names) != 0 {
			t.Fatalf("Try of %v is %v %v beside an error", p, objects, names)
		}
		if is := fmt.Sprint(r, p); is != was {
			t.Fatalf("what was tried changed %s to %s", was, is)
		}
	}
	if needy < 1000 || done < 1000 || told[api.ErrState] < 100 || told[api.ErrKind] < 100 || told[api.ErrNone] < 1000 {
		t.Errorf("%d need something, %d are done, %v were told: the draw does not try the promise", needy, done, told)
	}
}

// expectDone: it is a store with refs, and has all that was there, and all that came.
func expectDone(t *testing.T, r api.Replica, p api.Push, objects []api.Object, names []api.Ref) {
	t.Helper()
	if e := refs.Check(names, objects); e != api.OK {
		t.Fatalf("Try of %v is %v %v, which has errno %d", p, objects, names, e)
	}
	for _, o := range slices.Concat(r.Store, p.Objects) {
		if got, e := store.Find(objects, o.Id); e != api.OK || text(got) != text(o) {
			t.Fatalf("Try of %v is %v, in which %v is %v %d", p, objects, o, got, e)
		}
	}
	want, e := update.Apply(r.Refs, objects, p.Updates, p.Force)
	if e != api.OK || !slices.Equal(names, want) {
		t.Fatalf("Try of %v makes the refs %v, must be %v %d", p, names, want, e)
	}
}

// TestP2ArgumentsAreOnlyRead: and the spare room behind them.
func TestP2ArgumentsAreOnlyRead(t *testing.T) {
	all, names := history(), []api.Ref{ref("main", 3), ref("behind", 1), ref("them", 2)}
	come := append(history()[3:], blob(98), blob(97))
	us := ups(up("z", 0, 8), up("main", 3, 6), up("a", 0, 7), up("behind", 1, 1))
	links := []int{7, 6, 5, 4}
	come[0] = api.Object{Id: 20, Kind: api.Tree, Links: links[2:3]}
	show := func() string { return fmt.Sprint(all, names, come, us, links) }
	was := show()
	r := api.Replica{Store: all[:3], Refs: names[:1]}
	for n := range len(come) {
		for m := range len(us) {
			p := api.Push{Objects: come[:n], Updates: us[:m]}
			Check(p)
			Try(r, p)
			Needs(all[:3], p)
			Needs(all[:0], p)
		}
	}
	if is := show(); is != was {
		t.Errorf("they became\n%s, were\n%s", is, was)
	}
}

// TestP2AnswersAreTheCallers: a change of one is seen neither in what was handed in nor in another one.
func TestP2AnswersAreTheCallers(t *testing.T) {
	r := young()
	p := api.Push{Objects: history()[3:6], Updates: ups(up("n", 0, 6))}
	was := fmt.Sprint(r, p)
	objects, names, _ := Try(r, p)
	for i := range objects {
		_ = append(objects[i].Links, 88)
		for j := range objects[i].Links {
			objects[i].Links[j] = 77
		}
	}
	want := objs(obj(1, 1, "one"), tree(2, 77), obj(3, 3, "c1", 77), obj(4, 1, "two"), tree(5, 77, 77, 77), obj(6, 3, "c2", 77, 77))
	if text(objects...) != text(want...) {
		t.Errorf("links share memory: %v, must be %v", objects, want)
	}
	clear(objects)
	clear(names)
	if is := fmt.Sprint(r, p); is != was {
		t.Errorf("a change of the answer changed %s to %s", was, is)
	}
	expectTried(t, r, p, history()[:6], ref("main", 3), ref("n", 6))
	ids, _ := Needs(nil, p)
	clear(ids)
	expectNeeds(t, nil, p, 1, 2, 3)
	if is := fmt.Sprint(r, p); is != was {
		t.Errorf("Needs changed %s to %s", was, is)
	}
}
