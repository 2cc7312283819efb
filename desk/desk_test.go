package desk

import (
	"fmt"
	"math"
	"reflect"
	"slices"
	"testing"

	"forestay/api"
	"forestay/cluster"
)

func obj(id, kind int, text string, links ...int) api.Object {
	return api.Object{Id: id, Kind: kind, Links: links, Text: text}
}

func ref(name string, id int) api.Ref { return api.Ref{Name: name, Id: id} }

func up(name string, was, now int) api.Update { return api.Update{Name: name, Old: was, New: now} }

func ups(l ...api.Update) []api.Update { return l }

// history: commit 3, then 6 and 7 from it, and 8 from both.
func history() []api.Object {
	return []api.Object{obj(1, api.Blob, "one"), obj(2, api.Tree, "", 1), obj(3, api.Commit, "c1", 2), obj(4, api.Blob, "two"), obj(5, api.Tree, "", 1, 2, 4), obj(6, api.Commit, "c2", 5, 3), obj(7, api.Commit, "c3", 2, 3), obj(8, api.Commit, "c4", 5, 6, 7)}
}

func blobs(from, to int) []api.Object {
	var l []api.Object
	for id := from; id <= to; id++ {
		l = append(l, obj(id, api.Blob, ""))
	}
	return l
}

// first: a push that a replica without anything can do.
func first() api.Push {
	return api.Push{Objects: history()[:3], Updates: ups(up("main", 0, 3))}
}

// next: a push that a young replica can do.
func next() api.Push {
	return api.Push{Objects: history()[3:6], Updates: ups(up("main", 3, 6), up("b", 0, 3))}
}

// young: an Idle replica with the first commit of history alone.
func young(gen int) api.Replica {
	return api.Replica{Store: history()[:3], Refs: []api.Ref{ref("main", 3)}, Gen: gen}
}

// grown: a young replica that has done next.
func grown(gen int) api.Replica {
	return api.Replica{Store: history()[:6], Refs: []api.Ref{ref("b", 3), ref("main", 6)}, Gen: gen}
}

// with: a replica that has more objects, of greater ids.
func with(r api.Replica, more ...api.Object) api.Replica {
	r.Store = append(slices.Clip(r.Store), more...)
	return r
}

// holding something apart, in a phase.
func holding(r api.Replica, phase int) api.Replica {
	r.Phase, r.Pending = phase, next()
	r.Pending.Force = true
	return r
}

func of(l ...api.Replica) api.Cluster { return api.Cluster{Replicas: l} }

// text of anything, in which an empty list and none are the same.
func text(v any) string { return fmt.Sprintf("%+v", v) }

func pushing(p api.Push, up, late int) api.Act {
	return api.Act{Kind: api.ActPush, Up: up, Late: late, Push: p}
}

func repairing(i int) api.Act { return api.Act{Kind: api.ActRepair, Of: i} }

func crashing(i int) api.Act { return api.Act{Kind: api.ActCrash, Of: i} }

func expectDone(t *testing.T, c api.Cluster, a api.Act, want api.Cluster, told bool) {
	t.Helper()
	if got, ok, e := Do(c, a); text(got) != text(want) || ok != told || e != api.OK {
		t.Errorf("Do %+v to %+v is %+v %v %d, must be %+v %v", a, c, got, ok, e, want, told)
	}
}

func expectNotDone(t *testing.T, c api.Cluster, a api.Act, want api.Errno) {
	t.Helper()
	if got, ok, e := Do(c, a); text(got) != text(api.Cluster{}) || ok || e != want {
		t.Errorf("Do %+v to %+v is %+v %v %d, must be nothing, and %d", a, c, got, ok, e, want)
	}
}

func TestL1Push(t *testing.T) {
	expectDone(t, cluster.New(), pushing(first(), 7, 0), of(young(1), young(1), young(1)), true)
	c := of(young(5), young(5), young(5))
	expectDone(t, c, pushing(next(), 7, 0), of(grown(6), grown(6), grown(6)), true)
	expectDone(t, c, pushing(next(), 7, 2), of(grown(6), young(5), grown(6)), true)
	expectDone(t, c, pushing(next(), 6, 0), of(young(5), grown(6), grown(6)), true)
	expectDone(t, c, pushing(next(), 6, 1), of(young(5), grown(6), grown(6)), true)
	expectDone(t, of(young(4), young(5), young(5)), pushing(next(), 7, 0), of(young(4), grown(6), grown(6)), true)
	held := holding(young(5), api.Voted)
	expectDone(t, of(young(5), held, young(5)), pushing(next(), 7, 0), of(grown(6), held, grown(6)), true)
	// What is told false is told beside the cluster as it was.
	for _, b := range [][2]int{{0, 0}, {1, 0}, {7, 3}, {6, 4}, {7, 7}} {
		expectDone(t, c, pushing(next(), b[0], b[1]), c, false)
	}
	expectDone(t, c, pushing(first(), 7, 0), c, false)
	mixed := of(young(4), young(5), young(5))
	expectDone(t, mixed, pushing(next(), 3, 0), mixed, false)
	expectDone(t, of(held, held, young(5)), pushing(next(), 7, 0), of(held, held, young(5)), false)
}

func TestL1Repair(t *testing.T) {
	all := of(grown(5), grown(5), grown(5))
	for i := range 3 {
		for _, old := range []api.Replica{{}, young(4), holding(young(0), api.Prepared), grown(5), holding(grown(5), api.Voted)} {
			l := []api.Replica{grown(5), grown(5), grown(5)}
			l[i] = old
			expectDone(t, of(l...), repairing(i), all, true)
		}
	}
	// All others are let be, even one that is behind.
	c := of(young(4), holding(grown(5), api.Voted), with(grown(5), obj(40, api.Blob, "own")))
	expectDone(t, c, repairing(0), of(grown(5), c.Replicas[1], c.Replicas[2]), true)
	expectDone(t, c, repairing(1), of(c.Replicas[0], grown(5), c.Replicas[2]), true)
	expectDone(t, c, repairing(2), c, true)
	own := with(young(4), obj(40, api.Blob, "own"))
	expectDone(t, of(grown(5), grown(5), own), repairing(2), of(grown(5), grown(5), with(grown(5), obj(40, api.Blob, "own"))), true)
	// Who is of the greatest Gen takes what the first one of it has.
	more := with(grown(5), blobs(20, 50)...)
	expectDone(t, of(more, grown(5), grown(5)), repairing(2), of(more, grown(5), more), true)
	expectDone(t, cluster.New(), repairing(1), cluster.New(), true)
}

func TestL1Crash(t *testing.T) {
	for i := range 3 {
		for _, phase := range []int{api.Prepared, api.Voted} {
			l := []api.Replica{grown(5), holding(grown(5), phase), grown(5)}
			l[i] = holding(young(4), phase)
			if i == 1 {
				l[0] = holding(grown(5), phase)
			}
			want := slices.Clone(l)
			want[i] = young(4)
			expectDone(t, of(l...), crashing(i), of(want...), true)
		}
		c := of(grown(5), grown(5), grown(5))
		expectDone(t, c, crashing(i), c, true)
		expectDone(t, cluster.New(), crashing(i), cluster.New(), true)
	}
}

// badClusters, each with what Check says.
var badClusters = []struct {
	c    api.Cluster
	want api.Errno
}{
	{api.Cluster{}, api.ErrForm},
	{of([]api.Replica{}...), api.ErrForm},
	{of(young(5), young(5)), api.ErrForm},
	{of(young(5), young(5), young(5), young(5)), api.ErrForm},
	{of(young(5), young(-1), young(5)), api.ErrRange},
	{of(young(5), young(5), holding(young(5), 3)), api.ErrKind},
	{of(api.Replica{Refs: young(0).Refs}, young(5), young(5)), api.ErrNone},
	{of(young(5), young(5), api.Replica{Gen: 5}), api.ErrState},
	{of(young(4), young(5), young(4)), api.ErrState},
}

// badActs are wrong whatever the cluster is.
var badActs = []struct {
	a    api.Act
	want api.Errno
}{
	{api.Act{}, api.ErrKind},
	{api.Act{Kind: 4}, api.ErrKind},
	{api.Act{Kind: -1}, api.ErrKind},
	{api.Act{Kind: math.MinInt}, api.ErrKind},
	{api.Act{Kind: math.MaxInt}, api.ErrKind},
	{api.Act{Kind: 4, Of: 9, Up: 9, Late: -1, Push: next()}, api.ErrKind},
	{api.Act{Kind: 0, Of: 9, Up: 9, Late: -1}, api.ErrKind},
	{api.Act{Kind: api.ActPush, Of: 1, Up: 7, Push: next()}, api.ErrForm},
	{api.Act{Kind: api.ActPush, Of: -1, Up: 7, Push: next()}, api.ErrForm},
	{api.Act{Kind: api.ActPush, Of: 9, Up: 8, Late: 8}, api.ErrForm},
	{pushing(api.Push{}, 7, 0), api.ErrNone},
	{pushing(api.Push{}, 8, -1), api.ErrNone},
	{pushing(api.Push{Objects: blobs(1, 13)}, 7, 0), api.ErrMany},
	{pushing(api.Push{Updates: ups(up("X", 0, 3))}, 7, 0), api.ErrForm},
	{pushing(next(), 8, 0), api.ErrRange},
	{pushing(next(), 7, 8), api.ErrRange},
	{pushing(next(), -1, 0), api.ErrRange},
	{pushing(next(), 7, -1), api.ErrRange},
}

// mislaid acts have something that only a push may have.
func mislaid(kind, i int) []api.Act {
	return []api.Act{
		{Kind: kind, Of: i, Up: 1},
		{Kind: kind, Of: i, Up: -1},
		{Kind: kind, Of: i, Late: 1},
		{Kind: kind, Of: i, Late: math.MinInt},
		{Kind: kind, Of: i, Push: api.Push{Force: true}},
		{Kind: kind, Of: i, Push: api.Push{Objects: history()[:1]}},
		{Kind: kind, Of: i, Push: api.Push{Updates: ups(up("b", 0, 3))}},
		{Kind: kind, Of: i, Push: api.Push{Updates: make([]api.Update, 1)}},
		{Kind: kind, Of: i, Up: 7, Push: next()},
	}
}

func TestL1Errors(t *testing.T) {
	good := []api.Cluster{cluster.New(), of(young(5), young(5), young(5)), of(young(4), grown(5), holding(grown(5), api.Voted)), of(young(999), young(999), young(999))}
	for _, c := range good {
		for _, b := range badActs {
			expectNotDone(t, c, b.a, b.want)
		}
		for _, kind := range []int{api.ActRepair, api.ActCrash} {
			for _, i := range []int{3, -1, 4, math.MinInt, math.MaxInt} {
				expectNotDone(t, c, api.Act{Kind: kind, Of: i}, api.ErrRange)
			}
			// What is there and may not be tells ahead of a replica that is not.
			for _, a := range slices.Concat(mislaid(kind, 0), mislaid(kind, 2), mislaid(kind, 3), mislaid(kind, -1)) {
				expectNotDone(t, c, a, api.ErrForm)
			}
		}
	}
	for _, c := range badClusters {
		for _, b := range badActs {
			expectNotDone(t, c.c, b.a, c.want)
		}
		for _, a := range slices.Concat(mislaid(api.ActCrash, 3), []api.Act{pushing(next(), 7, 0), repairing(0), repairing(3), crashing(2), crashing(-1)}) {
			expectNotDone(t, c.c, a, c.want)
		}
	}
}

func TestL1ErrorsOfTheCalls(t *testing.T) {
	last := of(young(999), young(999), young(999))
	expectNotDone(t, last, pushing(next(), 7, 0), api.ErrMany)
	odd := api.Replica{Store: []api.Object{obj(1, api.Blob, "other")}}
	for i := range 3 {
		l := []api.Replica{grown(5), grown(5), grown(5)}
		l[i] = odd
		expectNotDone(t, of(l...), repairing(i), api.ErrTwice)
		l[i] = api.Replica{Store: blobs(20, 54)}
		expectNotDone(t, of(l...), repairing(i), api.ErrMany)
		// Whoever else can't be repaired: it is not this one's fault.
		expectDone(t, of(l...), repairing((i+1)%3), of(l...), true)
		expectDone(t, of(l...), crashing(i), of(l...), true)
	}
	// One of the greatest Gen may have other objects than the first one of it.
	a, b := with(grown(5), obj(40, api.Blob, "a")), with(grown(5), obj(40, api.Blob, "b"))
	expectNotDone(t, of(a, b, a), repairing(1), api.ErrTwice)
	expectDone(t, of(a, b, a), repairing(2), of(a, b, a), true)
}

// TestL1EmptyLists: a list without elements is nothing that is there.
func TestL1EmptyLists(t *testing.T) {
	c := of(young(4), grown(5), grown(5))
	none := api.Push{Objects: []api.Object{}, Updates: []api.Update{}}
	expectDone(t, c, api.Act{Kind: api.ActRepair, Push: none}, of(grown(5), grown(5), grown(5)), true)
	expectDone(t, c, api.Act{Kind: api.ActCrash, Push: none}, c, true)
}

func expectRun(t *testing.T, l []api.Act, want api.Cluster, told []bool, errnos []api.Errno) {
	t.Helper()
	c, ok, es, e := Run(l)
	if text(c) != text(want) || text(ok) != text(told) || text(es) != text(errnos) || e != api.OK {
		t.Errorf("Run %+v is %+v %v %v %d, must be %+v %v %v", l, c, ok, es, e, want, told, errnos)
	}
}

func TestL1Run(t *testing.T) {
	expectRun(t, nil, cluster.New(), nil, nil)
	expectRun(t, []api.Act{}, cluster.New(), nil, nil)
	expectRun(t, []api.Act{pushing(first(), 7, 0)}, of(young(1), young(1), young(1)), []bool{true}, []api.Errno{0})
	expectRun(t, []api.Act{{}}, cluster.New(), []bool{false}, []api.Errno{api.ErrKind})
	l := []api.Act{
		pushing(first(), 7, 4),
		pushing(next(), 5, 0), // replica 2 was late, so that its vote is not the other's
		repairing(3),
		pushing(next(), 8, 0),
		repairing(2),
		pushing(next(), 5, 0),
		{Kind: api.ActCrash, Up: 1},
		crashing(1),
		pushing(api.Push{}, 7, 0),
		pushing(next(), 7, 0),
	}
	told := []bool{true, false, false, false, true, true, false, true, false, false}
	errnos := []api.Errno{0, 0, api.ErrRange, api.ErrRange, 0, 0, api.ErrForm, 0, api.ErrNone, 0}
	wants := []api.Cluster{of(young(1), young(1), api.Replica{}), of(young(1), young(1), young(1)), of(grown(2), young(1), grown(2))}
	which := []int{0, 0, 0, 0, 1, 2, 2, 2, 2, 2}
	for i := range l {
		expectRun(t, l[:i+1], wants[which[i]], told[:i+1], errnos[:i+1])
	}
}

func TestL1RunOfManyActs(t *testing.T) {
	l := []api.Act{pushing(first(), 7, 0)}
	for len(l) < 12 {
		l = append(l, pushing(api.Push{Updates: ups(up("main", 3, 3))}, 7, 0))
	}
	expectRun(t, l, of(young(12), young(12), young(12)), slices.Repeat([]bool{true}, 12), make([]api.Errno, 12))
	for _, more := range [][]api.Act{{crashing(0)}, {{}}, make([]api.Act, 100)} {
		c, told, errnos, e := Run(append(slices.Clip(l), more...))
		if text(c) != text(api.Cluster{}) || len(told) != 0 || len(errnos) != 0 || e != api.ErrMany {
			t.Errorf("Run of %d acts is %+v %v %v %d", 12+len(more), c, told, errnos, e)
		}
	}
	// Of acts that are wrong there may be just as many.
	expectRun(t, make([]api.Act, 12), cluster.New(), make([]bool, 12), slices.Repeat([]api.Errno{api.ErrKind}, 12))
}

func TestL2(t *testing.T) {
	many := with(young(999), history()[3:]...)
	many.Refs = []api.Ref{ref("-", 3), ref("0", 6), ref("a", 7), ref("a-b", 8), ref("ab/c", 3), ref("b/c-9/d", 3), ref("main", 8), ref("z", 3)}
	for _, c := range []struct {
		c    api.Cluster
		want string
	}{
		{cluster.New(), "0:"},
		{of(young(5), young(5), young(5)), "5:main=3;"},
		{of(young(4), grown(5), grown(5)), "5:b=3;main=6;"},
		{of(grown(5), grown(5), young(4)), "5:b=3;main=6;"},
		{of(grown(10), young(9), grown(10)), "10:b=3;main=6;"},
		{of(grown(998), api.Replica{Gen: 999}, api.Replica{Gen: 999}), "999:"},
		{of(many, many, young(0)), "999:-=3;0=6;a=7;a-b=8;ab/c=3;b/c-9/d=3;main=8;z=3;"},
		// What is held apart is not shown.
		{of(holding(young(5), api.Voted), holding(young(5), api.Voted), young(4)), "5:main=3;"},
	} {
		if s, e := Show(c.c); s != c.want || e != api.OK {
			t.Errorf("Show of %+v is %q %d, must be %q", c.c, s, e, c.want)
		}
	}
	great := api.Replica{Store: []api.Object{obj(1, api.Tree, ""), obj(99, api.Commit, "", 1)}, Refs: []api.Ref{ref("abcdefghijkl", 99)}, Gen: 100}
	if s, e := Show(of(great, great, great)); s != "100:abcdefghijkl=99;" || e != api.OK {
		t.Errorf("Show is %q %d", s, e)
	}
}

func TestL2Errors(t *testing.T) {
	for _, c := range badClusters {
		if s, e := Show(c.c); s != "" || e != c.want {
			t.Errorf("Show of %+v is %q %d, must be nothing, and %d", c.c, s, e, c.want)
		}
	}
}

// rooms of all lists in a value, spare room too: where each begins and ends.
func rooms(v reflect.Value) [][2]uintptr {
	var l [][2]uintptr
	switch v.Kind() {
	case reflect.Struct:
		for i := range v.NumField() {
			l = append(l, rooms(v.Field(i))...)
		}
	case reflect.Slice:
		if v.Cap() > 0 {
			l = append(l, [2]uintptr{v.Pointer(), v.Pointer() + uintptr(v.Cap())*v.Type().Elem().Size()})
		}
		for i := range v.Len() {
			l = append(l, rooms(v.Index(i))...)
		}
	}
	return l
}

// expectOwn: no list of what came shares room with another one of it, or with one of what was handed in.
func expectOwn(t *testing.T, came any, handed ...any) {
	t.Helper()
	own := rooms(reflect.ValueOf(came))
	var others [][2]uintptr
	for _, h := range handed {
		others = append(others, rooms(reflect.ValueOf(h))...)
	}
	for i, a := range own {
		for _, b := range append(own[:i:i], others...) {
			if a[0] < b[1] && b[0] < a[1] {
				t.Fatalf("two lists share memory: %v, %v", came, handed)
			}
		}
	}
}

// spoil all that came.
func spoil(c api.Cluster) {
	for _, r := range c.Replicas {
		for _, o := range r.Store {
			clear(o.Links)
		}
		clear(r.Store)
		clear(r.Refs)
		clear(r.Pending.Objects)
		clear(r.Pending.Updates)
	}
	clear(c.Replicas)
}

// crowded: a cluster and a push, with spare room behind each list, which share as much as a caller may.
func crowded() (api.Cluster, api.Push, func() string) {
	links := []int{1, 2, 4, 77}
	objects := append(make([]api.Object, 0, 20), history()...)
	objects[1].Links, objects[4].Links = links[:1], links[:3]
	objects[:9][8] = obj(91, api.Blob, "spare")
	names := append(make([]api.Ref, 0, 4), ref("main", 3))
	names[:2][1] = ref("spare", 9)
	us := append(make([]api.Update, 0, 4), up("main", 3, 6), up("b", 0, 3))
	us[:3][2] = up("spare", 9, 9)
	p := api.Push{Objects: objects[3:6], Updates: us}
	r := api.Replica{Store: objects[:3], Refs: names, Gen: 4}
	held := api.Replica{Store: objects[:2], Gen: 3, Phase: api.Prepared, Pending: p}
	l := []api.Replica{r, r, held, young(77)}
	return of(l[:3]...), p, func() string { return text([]any{objects[:9], names[:2], us[:3], links, l, p}) }
}

func TestP2Do(t *testing.T) {
	c, p, all := crowded()
	was := all()
	for _, a := range []api.Act{pushing(p, 7, 0), pushing(p, 7, 1), pushing(p, 1, 0), repairing(0), repairing(1), repairing(2), crashing(0), crashing(2)} {
		got, _, e := Do(c, a)
		if e != api.OK || all() != was {
			t.Fatalf("%+v: errno %d; it was %s, and is %s", a, e, was, all())
		}
		expectOwn(t, got, c, p)
		// It answers the same again, whatever became of what it answered.
		before := text(got)
		spoil(got)
		if again, _, _ := Do(c, a); text(again) != before || all() != was {
			t.Errorf("%+v: it was %s, and then %s", a, before, text(again))
		}
	}
	if _, e := Show(c); e != api.OK || all() != was {
		t.Errorf("Show has errno %d; it was %s, and is %s", e, was, all())
	}
}

func TestP2Run(t *testing.T) {
	_, p, all := crowded()
	was := all()
	start := api.Push{Objects: history()[:3], Updates: ups(up("main", 0, 3))}
	room := []api.Act{pushing(start, 7, 4), pushing(p, 7, 0), repairing(2), {}, crashing(1), pushing(p, 7, 7)}
	acts := text(room)
	for n := range len(room) {
		l := room[:n]
		c, told, errnos, e := Run(l)
		if e != api.OK || all() != was || text(room) != acts {
			t.Fatalf("errno %d; it was %s, and is %s", e, was, all())
		}
		came := struct {
			c      api.Cluster
			told   []bool
			errnos []api.Errno
		}{c, told, errnos}
		expectOwn(t, came, room, p)
		before := text(came)
		spoil(c)
		clear(told)
		clear(errnos)
		came.c, came.told, came.errnos, _ = Run(l)
		if text(came) != before || text(room) != acts {
			t.Errorf("it was %s, and then %s", before, text(came))
		}
	}
}
