package repair

import (
	"fmt"
	"reflect"
	"slices"
	"testing"

	"forestay/api"
	"forestay/cluster"
	"forestay/replica"
	"forestay/store"
	"forestay/walk"
)

func obj(id, kind int, text string, links ...int) api.Object {
	return api.Object{Id: id, Kind: kind, Links: links, Text: text}
}

func ref(name string, id int) api.Ref { return api.Ref{Name: name, Id: id} }

func up(name string, was, now int) api.Update { return api.Update{Name: name, Old: was, New: now} }

func ups(l ...api.Update) []api.Update { return l }

// history: commit 3, then 6 and 7 from it, and 8 from both.
func history() []api.Object {
	return []api.Object{obj(1, api.Blob, "one"), obj(2, api.Tree, "", 1), obj(3, api.Commit, "c1", 2), obj(4, api.Blob, "two"), obj(5, api.Tree, "", 1, 2, 4), obj(6, api.Commit, "c2", 5, 3), obj(7, api.Commit, "c3", 2, 3), obj(8, api.Commit, "c4", 5, 6, 7)}
}

// blobs from one id to another one.
func blobs(from, to int) []api.Object {
	var l []api.Object
	for id := from; id <= to; id++ {
		l = append(l, obj(id, api.Blob, ""))
	}
	return l
}

func next() api.Push {
	return api.Push{Objects: history()[3:6], Updates: ups(up("main", 3, 6), up("b", 0, 3))}
}

// young: an Idle replica with the first commit of history alone.
func young(gen int) api.Replica {
	return api.Replica{Store: history()[:3], Refs: []api.Ref{ref("main", 3)}, Gen: gen}
}

// grown: a young replica that has done next.
func grown(gen int) api.Replica {
	return api.Replica{Store: history()[:6], Refs: []api.Ref{ref("b", 3), ref("main", 6)}, Gen: gen}
}

// with: a replica that has more objects, of greater ids.
func with(r api.Replica, more ...api.Object) api.Replica {
	r.Store = append(slices.Clip(r.Store), more...)
	return r
}

// holding something apart, in a phase.
func holding(r api.Replica, phase int) api.Replica {
	r.Phase, r.Pending = phase, next()
	r.Pending.Force = true
	return r
}

func of(l ...api.Replica) api.Cluster { return api.Cluster{Replicas: l} }

// text of anything, in which an empty list and none are the same.
func text(v any) string { return fmt.Sprintf("%+v", v) }

type fromCase struct {
	name            string
	newest, r, want api.Replica
}

var goodFrom = []fromCase{
	{"both without anything", api.Replica{}, api.Replica{}, api.Replica{}},
	{"one that lacks all", grown(5), api.Replica{}, grown(5)},
	{"one that lacks something", grown(5), young(4), grown(5)},
	{"one far behind", grown(999), young(0), grown(999)},
	{"one that lacks nothing", grown(5), grown(5), grown(5)},
	{"one of the same Gen and other objects", grown(5), with(grown(5), obj(40, api.Blob, "own")), with(grown(5), obj(40, api.Blob, "own"))},
	{"one of the same Gen and other refs", grown(5), young(5), grown(5)},
	{"one that has objects of its own", grown(5), with(young(4), obj(40, api.Blob, "own"), obj(41, api.Tree, "", 40)), with(grown(5), obj(40, api.Blob, "own"), obj(41, api.Tree, "", 40))},
	{"objects of both by turns", api.Replica{Store: []api.Object{obj(1, api.Blob, ""), obj(3, api.Blob, ""), obj(5, api.Blob, "")}}, api.Replica{Store: []api.Object{obj(2, api.Blob, ""), obj(4, api.Blob, ""), obj(6, api.Blob, "")}}, api.Replica{Store: blobs(1, 6)}},
	{"refs that the newer one has not", young(5), grown(4), api.Replica{Store: history()[:6], Refs: young(5).Refs, Gen: 5}},
	{"a newer one without refs", api.Replica{Gen: 5}, grown(4), api.Replica{Store: history()[:6], Gen: 5}},
	{"a name that is the place of another one", young(5), api.Replica{Store: history()[:3], Refs: []api.Ref{ref("main/x", 3)}, Gen: 4}, young(5)},
	{"one that is Prepared", grown(5), holding(young(4), api.Prepared), grown(5)},
	{"one that has Voted", grown(5), holding(young(4), api.Voted), grown(5)},
	{"a newer one that is Prepared", holding(grown(5), api.Prepared), young(4), grown(5)},
	{"a newer one that has Voted", holding(grown(5), api.Voted), holding(young(4), api.Voted), grown(5)},
	{"as many as come at once", api.Replica{Store: blobs(1, 12), Gen: 1}, api.Replica{}, api.Replica{Store: blobs(1, 12), Gen: 1}},
	{"more than come at once", api.Replica{Store: blobs(1, 13), Gen: 1}, api.Replica{}, api.Replica{Store: blobs(1, 13), Gen: 1}},
	{"far more than come at once, of a history", with(grown(5), blobs(20, 53)...), young(4), with(grown(5), blobs(20, 53)...)},
	{"as many as a store has", api.Replica{Store: blobs(1, 40)}, api.Replica{}, api.Replica{Store: blobs(1, 40)}},
	{"as many as a store has, of the other one", api.Replica{Gen: 7}, api.Replica{Store: blobs(1, 40)}, api.Replica{Store: blobs(1, 40), Gen: 7}},
	{"as many as a store has, of both", api.Replica{Store: blobs(1, 25)}, api.Replica{Store: blobs(10, 40)}, api.Replica{Store: blobs(1, 40)}},
}

func TestK1From(t *testing.T) {
	for _, c := range goodFrom {
		r, e := From(c.newest, c.r)
		if text(r) != text(c.want) || e != api.OK {
			t.Errorf("%s: From is %+v %d, must be %+v", c.name, r, e, c.want)
		}
		if replica.Check(r) != api.OK {
			t.Errorf("%s: what comes is no replica: %d", c.name, replica.Check(r))
		}
	}
}

// badReplicas: wrong ones, each with what Check says.
var badReplicas = []struct {
	r    api.Replica
	want api.Errno
}{
	{young(-1), api.ErrRange},
	{young(1000), api.ErrRange},
	{api.Replica{Store: blobs(1, 41)}, api.ErrMany},
	{api.Replica{Store: history()[1:]}, api.ErrNone},
	{api.Replica{Store: append(history(), history()[0])}, api.ErrState},
	{api.Replica{Refs: []api.Ref{ref("main", 3)}}, api.ErrNone},
	{api.Replica{Store: history(), Refs: []api.Ref{ref("main", 2)}}, api.ErrKind},
	{api.Replica{Store: history(), Refs: []api.Ref{ref("a", 3), ref("a/b", 3)}}, api.ErrTwice},
	{holding(young(1), 3), api.ErrKind},
	{holding(young(1), api.Idle), api.ErrForm},
	{api.Replica{Phase: api.Voted}, api.ErrNone},
}

func expectNoFrom(t *testing.T, newest, r api.Replica, want api.Errno) {
	t.Helper()
	if got, e := From(newest, r); text(got) != text(api.Replica{}) || e != want {
		t.Errorf("From %+v of %+v is %+v %d, must be nothing, and %d", newest, r, got, e, want)
	}
}

func TestK1FromOfWrongOnes(t *testing.T) {
	good := []api.Replica{{}, young(5), grown(999), {Store: blobs(1, 40), Gen: 9}}
	for _, b := range badReplicas {
		for _, g := range good {
			expectNoFrom(t, b.r, g, b.want)
			expectNoFrom(t, g, b.r, b.want)
		}
		// Of two that are wrong the newer one tells.
		for _, other := range badReplicas {
			expectNoFrom(t, b.r, other.r, b.want)
		}
	}
}

func TestK1FromErrors(t *testing.T) {
	expectNoFrom(t, young(4), young(5), api.ErrState)
	expectNoFrom(t, api.Replica{}, api.Replica{Gen: 1}, api.ErrState)
	expectNoFrom(t, young(998), grown(999), api.ErrState)
	odd := api.Replica{Store: []api.Object{obj(1, api.Blob, "other")}}
	for _, o := range []api.Object{obj(3, api.Commit, "", 2), obj(3, api.Tree, "c1", 2), obj(3, api.Blob, "c1"), obj(3, api.Tree, "c1", 1, 2)} {
		expectNoFrom(t, young(5), api.Replica{Store: append(history()[:2], o)}, api.ErrTwice)
	}
	expectNoFrom(t, young(5), odd, api.ErrTwice)
	expectNoFrom(t, api.Replica{Store: blobs(1, 40)}, api.Replica{Store: blobs(41, 41)}, api.ErrMany)
	expectNoFrom(t, api.Replica{Store: blobs(41, 41)}, api.Replica{Store: blobs(1, 40)}, api.ErrMany)
	expectNoFrom(t, api.Replica{Store: blobs(1, 25)}, api.Replica{Store: blobs(10, 41)}, api.ErrMany)
	expectNoFrom(t, api.Replica{Store: blobs(1, 40)}, api.Replica{Store: blobs(50, 89)}, api.ErrMany)
	// Which one is told, where several are wrong.
	expectNoFrom(t, young(5), with(odd, blobs(30, 68)...), api.ErrTwice)
	odd.Gen = 6
	expectNoFrom(t, young(5), odd, api.ErrState)
	expectNoFrom(t, api.Replica{Store: blobs(1, 40), Gen: 1}, api.Replica{Store: blobs(41, 41), Gen: 2}, api.ErrState)
}

var allCases = []struct {
	name    string
	c, want api.Cluster
	n       int
}{
	{"without anything", cluster.New(), cluster.New(), 0},
	{"all of one Gen", of(grown(5), grown(5), grown(5)), of(grown(5), grown(5), grown(5)), 0},
	{"the first behind", of(young(4), grown(5), grown(5)), of(grown(5), grown(5), grown(5)), 1},
	{"the second behind", of(grown(5), young(4), grown(5)), of(grown(5), grown(5), grown(5)), 1},
	{"the third behind", of(grown(5), grown(5), young(4)), of(grown(5), grown(5), grown(5)), 1},
	{"one without anything", of(grown(999), grown(999), api.Replica{}), of(grown(999), grown(999), grown(999)), 1},
	{"one behind with the same refs", of(grown(5), grown(4), grown(5)), of(grown(5), grown(5), grown(5)), 1},
	{"one behind that holds something apart", of(holding(young(4), api.Voted), grown(5), grown(5)), of(grown(5), grown(5), grown(5)), 1},
	{"a newest that holds something apart", of(holding(grown(5), api.Voted), young(4), grown(5)), of(holding(grown(5), api.Voted), grown(5), grown(5)), 1},
	{"who is not behind is let be", of(holding(grown(5), api.Voted), with(grown(5), obj(40, api.Blob, "own")), grown(5)), of(holding(grown(5), api.Voted), with(grown(5), obj(40, api.Blob, "own")), grown(5)), 0},
	{"from the first of the greatest Gen", of(with(grown(5), obj(40, api.Blob, "a")), with(grown(5), obj(40, api.Blob, "b")), young(4)), of(with(grown(5), obj(40, api.Blob, "a")), with(grown(5), obj(40, api.Blob, "b")), with(grown(5), obj(40, api.Blob, "a"))), 1},
	{"from the first that is not behind", of(young(4), with(grown(5), obj(40, api.Blob, "a")), with(grown(5), obj(40, api.Blob, "b"))), of(with(grown(5), obj(40, api.Blob, "a")), with(grown(5), obj(40, api.Blob, "a")), with(grown(5), obj(40, api.Blob, "b"))), 1},
	{"unlike the newest, not behind", of(with(grown(5), blobs(20, 53)...), with(grown(5), blobs(60, 60)...), grown(5)), of(with(grown(5), blobs(20, 53)...), with(grown(5), blobs(60, 60)...), grown(5)), 0},
}

func TestK1All(t *testing.T) {
	for _, c := range allCases {
		got, n, e := All(c.c)
		if text(got) != text(c.want) || n != c.n || e != api.OK {
			t.Errorf("%s: All is %+v %d %d, must be %+v %d", c.name, got, n, e, c.want, c.n)
		}
	}
}

func TestK1AllErrors(t *testing.T) {
	odd := api.Replica{Store: []api.Object{obj(1, api.Blob, "other")}, Gen: 4}
	for _, c := range []struct {
		name string
		c    api.Cluster
		want api.Errno
	}{
		{"nothing", api.Cluster{}, api.ErrForm},
		{"two", of(grown(5), grown(5)), api.ErrForm},
		{"four", of(grown(5), grown(5), grown(5), young(4)), api.ErrForm},
		{"a wrong one", of(grown(5), young(-1), grown(5)), api.ErrRange},
		{"two unlike", of(grown(5), young(5), grown(5)), api.ErrState},
		{"one alone of the greatest Gen", of(young(4), grown(5), young(4)), api.ErrState},
		{"another object", of(grown(5), grown(5), odd), api.ErrTwice},
		{"another object at the first", of(odd, grown(5), grown(5)), api.ErrTwice},
		{"too many objects", of(grown(5), api.Replica{Store: blobs(20, 54)}, with(grown(5), blobs(10, 10)...)), api.ErrMany},
		{"far too many objects", of(grown(5), grown(5), api.Replica{Store: blobs(50, 89)}), api.ErrMany},
	} {
		if got, n, e := All(c.c); text(got) != text(api.Cluster{}) || n != 0 || e != c.want {
			t.Errorf("%s: All is %+v %d %d, must be nothing, and %d", c.name, got, n, e, c.want)
		}
	}
}

// draw numbers, the same each time.
type draw uint64

func (d *draw) below(n int) int {
	*d = *d*6364136223846793005 + 1442695040888963407
	return int(uint64(*d) >> 33 % uint64(n))
}

// replica of a few tips of history, with objects of its own.
func (d *draw) replica(t *testing.T, gen int) api.Replica {
	t.Helper()
	r := api.Replica{Gen: gen}
	var tips []int
	for _, name := range []string{"a", "b/c", "main"} {
		if d.below(3) > 0 {
			id := []int{3, 6, 7, 8}[d.below(4)]
			r.Refs, tips = append(r.Refs, ref(name, id)), append(tips, id)
		}
	}
	var e api.Errno
	if r.Store, e = walk.Part(history(), tips); e != api.OK {
		t.Fatalf("Part has errno %d", e)
	}
	for id := 20; id < 99; id++ {
		if d.below(4) == 0 && len(r.Store) < 26 {
			r.Store = append(r.Store, obj(id, api.Blob, fmt.Sprint(id)))
		}
	}
	if d.below(4) == 0 {
		r = holding(r, 1+d.below(2))
	}
	return r
}

// TestK2 goes through clusters one of whose replicas is behind.
func TestK2(t *testing.T) {
	d := new(draw)
	mended, refused := 0, 0
	for range 600 {
		newest := d.replica(t, 5)
		l := []api.Replica{newest, newest, newest}
		old := d.below(3)
		l[old] = d.replica(t, d.below(5))
		c, n, e := All(of(l...))
		if e == api.ErrMany {
			refused++
			continue
		}
		if e != api.OK || n != 1 || cluster.Check(c) != api.OK {
			t.Fatalf("All of %+v is %+v %d %d", l, c, n, e)
		}
		mended++
		for i, r := range c.Replicas {
			if text(r.Refs) != text(newest.Refs) || r.Gen != 5 {
				t.Fatalf("replica %d of %+v has other refs than %+v", i, c, newest)
			}
			expectHas(t, r, newest.Store)
			expectHas(t, r, l[i].Store)
		}
		if again, n, e := All(c); text(again) != text(c) || n != 0 || e != api.OK {
			t.Fatalf("All of what is repaired is %+v %d %d", again, n, e)
		}
	}
	if mended < 200 || refused < 20 {
		t.Errorf("%d were repaired, %d refused: the draw does not try the promise", mended, refused)
	}
}

// expectHas: a replica has all of these objects, and all that its refs reach.
func expectHas(t *testing.T, r api.Replica, l []api.Object) {
	t.Helper()
	for _, o := range l {
		if got, e := store.Find(r.Store, o.Id); e != api.OK || text(got) != text(o) {
			t.Fatalf("object %+v is lost, errno %d: %+v", o, e, r)
		}
	}
	var tips []int
	for _, n := range r.Refs {
		tips = append(tips, n.Id)
	}
	part, e := walk.Part(r.Store, tips)
	want, _ := walk.Part(history(), tips)
	if e != api.OK || text(part) != text(want) {
		t.Fatalf("refs of %+v reach %+v, errno %d", r, part, e)
	}
}

// rooms of all lists in a value, spare room too: where each begins and ends.
func rooms(v reflect.Value) [][2]uintptr {
	var l [][2]uintptr
	switch v.Kind() {
	case reflect.Struct:
		for i := range v.NumField() {
			l = append(l, rooms(v.Field(i))...)
		}
	case reflect.Slice:
		if v.Cap() > 0 {
			l = append(l, [2]uintptr{v.Pointer(), v.Pointer() + uintptr(v.Cap())*v.Type().Elem().Size()})
		}
		for i := range v.Len() {
			l = append(l, rooms(v.Index(i))...)
		}
	}
	return l
}

// expectOwn: no list of what came shares room with another one of it, or with one of what was handed in.
func expectOwn(t *testing.T, came any, handed ...any) {
	t.Helper()
	own := rooms(reflect.ValueOf(came))
	var others [][2]uintptr
	for _, h := range handed {
		others = append(others, rooms(reflect.ValueOf(h))...)
	}
	for i, a := range own {
		for _, b := range append(own[:i:i], others...) {
			if a[0] < b[1] && b[0] < a[1] {
				t.Fatalf("two lists share memory: %v, %v", came, handed)
			}
		}
	}
}

// crowded: a newer replica and an older one, with spare room behind each list, which share as much as a caller may.
func crowded() (api.Replica, api.Replica, func() string) {
	links := []int{1, 2, 4, 77}
	objects := append(make([]api.Object, 0, 20), history()...)
	objects[1].Links, objects[4].Links = links[:1], links[:3]
	objects[:9][8] = obj(91, api.Blob, "spare")
	names := append(make([]api.Ref, 0, 4), ref("b", 3), ref("main", 3))
	names[:3][2] = ref("spare", 9)
	us := append(make([]api.Update, 0, 4), up("main", 3, 6))
	us[:2][1] = up("spare", 9, 9)
	p := api.Push{Objects: objects[3:6], Updates: us}
	newest := api.Replica{Store: objects, Refs: names, Gen: 5, Phase: api.Voted, Pending: p}
	old := api.Replica{Store: objects[:3], Refs: names[1:], Gen: 4, Phase: api.Prepared, Pending: p}
	return newest, old, func() string { return text([]any{objects[:9], names[:3], us[:2], links, newest, old}) }
}

// spoil all that came.
func spoil(l ...api.Replica) {
	for _, r := range l {
		for _, o := range r.Store {
			clear(o.Links)
		}
		clear(r.Store)
		clear(r.Refs)
		clear(r.Pending.Objects)
		clear(r.Pending.Updates)
	}
}

func TestP2From(t *testing.T) {
	newest, old, all := crowded()
	was := all()
	for _, pair := range [][2]api.Replica{{newest, old}, {newest, newest}, {old, old}, {newest, {}}} {
		got, e := From(pair[0], pair[1])
		if e != api.OK || all() != was {
			t.Fatalf("errno %d; it was %s, and is %s", e, was, all())
		}
		expectOwn(t, got, newest, old)
		// It answers the same again, whatever became of what it answered.
		first := text(got)
		spoil(got)
		if again, _ := From(pair[0], pair[1]); text(again) != first || all() != was {
			t.Errorf("it was %s, and then %s", first, text(again))
		}
	}
}

func TestP2All(t *testing.T) {
	newest, old, all := crowded()
	was := all()
	for _, l := range [][]api.Replica{{newest, newest, old}, {old, newest, newest}, {newest, newest, newest}} {
		c := of(append(l, young(77))[:3]...)
		got, _, e := All(c)
		if e != api.OK || all() != was || text(c.Replicas[:4][3]) != text(young(77)) {
			t.Fatalf("errno %d; it was %s, and is %s", e, was, all())
		}
		expectOwn(t, got, c)
		first := text(got)
		spoil(got.Replicas...)
		clear(got.Replicas)
		if again, _, _ := All(c); text(again) != first || all() != was {
			t.Errorf("it was %s, and then %s", first, text(again))
		}
	}
}
