package cluster

import (
	"fmt"
	"math"
	"reflect"
	"slices"
	"testing"

	"forestay/api"
	"forestay/push"
	"forestay/replica"
)

func obj(id, kind int, text string, links ...int) api.Object {
	return api.Object{Id: id, Kind: kind, Links: links, Text: text}
}

func ref(name string, id int) api.Ref { return api.Ref{Name: name, Id: id} }

func up(name string, was, now int) api.Update { return api.Update{Name: name, Old: was, New: now} }

func ups(l ...api.Update) []api.Update { return l }

// history: commit 3, then 6 and 7 from it, and 8 from both.
func history() []api.Object {
	return []api.Object{obj(1, api.Blob, "one"), obj(2, api.Tree, "", 1), obj(3, api.Commit, "c1", 2), obj(4, api.Blob, "two"), obj(5, api.Tree, "", 1, 2, 4), obj(6, api.Commit, "c2", 5, 3), obj(7, api.Commit, "c3", 2, 3), obj(8, api.Commit, "c4", 5, 6, 7)}
}

// next: a push that a young replica can do.
func next() api.Push {
	return api.Push{Objects: history()[3:6], Updates: ups(up("main", 3, 6), up("b", 0, 3))}
}

// lacking: a push that only a replica with object 4 can do.
func lacking() api.Push {
	return api.Push{Objects: history()[4:6], Updates: ups(up("main", 3, 6))}
}

// young: an Idle replica with the first commit of history alone.
func young(gen int) api.Replica {
	return api.Replica{Store: history()[:3], Refs: []api.Ref{ref("main", 3)}, Gen: gen}
}

// rich: a young replica with more objects, which no name reaches.
func rich(gen int) api.Replica {
	r := young(gen)
	r.Store = append(r.Store, obj(4, api.Blob, "two"))
	return r
}

// odd: a young replica with another object 4.
func odd(gen int) api.Replica {
	r := young(gen)
	r.Store = append(r.Store, obj(4, api.Blob, "other"))
	return r
}

// bare: a replica without refs.
func bare(gen int) api.Replica { return api.Replica{Store: history()[:3], Gen: gen} }

// grown: a young replica that has done next.
func grown(gen int) api.Replica {
	return api.Replica{Store: history()[:6], Refs: []api.Ref{ref("b", 3), ref("main", 6)}, Gen: gen}
}

// holds: a young replica that holds a push apart, in a phase.
func holds(gen, phase int, p api.Push) api.Replica {
	r := young(gen)
	r.Phase, r.Pending = phase, p
	return r
}

func of(l ...api.Replica) api.Cluster { return api.Cluster{Replicas: l} }

// text of a cluster, in which an empty list and none are the same.
func text(c api.Cluster) string { return fmt.Sprintf("%+v", c) }

func TestI1New(t *testing.T) {
	c := New()
	if text(c) != text(of(make([]api.Replica, 3)...)) || Check(c) != api.OK {
		t.Errorf("New is %v, and its Check %d", c, Check(c))
	}
	c.Replicas[0].Gen = 9
	if New().Replicas[0].Gen != 0 {
		t.Error("a change of a new cluster is seen in the next one")
	}
}

type clusterCase struct {
	name   string
	c      api.Cluster
	newest int
	want   api.Errno
}

var goodClusters = []clusterCase{
	{"without anything", of(make([]api.Replica, 3)...), 0, api.OK},
	{"all of one Gen", of(young(5), young(5), young(5)), 0, api.OK},
	{"the first behind", of(young(4), grown(5), grown(5)), 1, api.OK},
	{"the second behind", of(grown(5), young(4), grown(5)), 0, api.OK},
	{"the third behind", of(grown(5), grown(5), young(4)), 0, api.OK},
	{"the first far behind", of(bare(0), young(999), young(999)), 1, api.OK},
	{"one behind with the same refs", of(young(5), young(4), young(5)), 0, api.OK},
	{"unlike objects", of(rich(5), odd(5), young(5)), 0, api.OK},
	{"unlike phases", of(holds(5, api.Voted, next()), holds(5, api.Prepared, lacking()), young(5)), 0, api.OK},
	{"all hold something apart", of(holds(4, api.Voted, next()), holds(5, api.Voted, next()), holds(5, api.Prepared, lacking())), 1, api.OK},
	{"empty refs and none", of(api.Replica{Refs: []api.Ref{}}, api.Replica{}, api.Replica{Store: []api.Object{}}), 0, api.OK},
}

var badClusters = []clusterCase{
	{"nothing", api.Cluster{}, 0, api.ErrForm},
	{"an empty list", of([]api.Replica{}...), 0, api.ErrForm},
	{"one", of(young(5)), 0, api.ErrForm},
	{"two", of(young(5), young(5)), 0, api.ErrForm},
	{"four", of(young(5), young(5), young(5), young(5)), 0, api.ErrForm},
	{"two that are wrong", of(young(-1), young(-1)), 0, api.ErrForm},
	{"four, two of which are unlike", of(young(5), bare(5), young(5), young(5)), 0, api.ErrForm},
	{"Gen too great", of(young(1000), young(1000), young(1000)), 0, api.ErrRange},
	{"Idle with a push", of(young(5), holds(5, api.Idle, next()), young(5)), 0, api.ErrForm},
	{"no such phase", of(young(5), young(5), holds(5, 3, next())), 0, api.ErrKind},
	{"a wrong push held apart", of(young(5), young(5), holds(5, api.Voted, api.Push{})), 0, api.ErrNone},
	{"a ref of none", of(api.Replica{Refs: young(0).Refs}, young(5), young(5)), 0, api.ErrNone},
	{"the first that is wrong tells", of(young(5), young(-1), holds(5, 3, next())), 0, api.ErrRange},
	{"the first that is wrong tells, the other way", of(young(5), holds(5, 3, next()), young(-1)), 0, api.ErrKind},
	{"a wrong one behind two that are unlike", of(young(5), bare(5), young(-1)), 0, api.ErrRange},
	{"a wrong one behind too few of the greatest", of(young(5), young(4), holds(3, 7, next())), 0, api.ErrKind},
	{"the first and the second unlike", of(bare(5), young(5), young(5)), 0, api.ErrState},
	{"the first and the third unlike", of(young(5), young(5), bare(5)), 0, api.ErrState},
	{"the second unlike", of(young(5), bare(5), young(5)), 0, api.ErrState},
	{"the last two unlike, the first behind", of(young(4), young(5), bare(5)), 0, api.ErrState},
	{"the first two unlike, the last behind", of(young(5), bare(5), young(4)), 0, api.ErrState},
	{"a name of another id", of(grown(5), api.Replica{Store: history()[:6], Refs: []api.Ref{ref("b", 6), ref("main", 6)}, Gen: 5}, grown(5)), 0, api.ErrState},
	{"an id of another name", of(young(5), api.Replica{Store: history()[:3], Refs: []api.Ref{ref("mail", 3)}, Gen: 5}, young(5)), 0, api.ErrState},
	{"the first alone of the greatest", of(young(5), young(4), young(4)), 0, api.ErrState},
	{"the second alone of the greatest", of(young(4), young(5), young(4)), 0, api.ErrState},
	{"the third alone of the greatest", of(young(4), young(4), young(5)), 0, api.ErrState},
	{"each of another Gen", of(young(4), young(5), young(6)), 0, api.ErrState},
}

func TestI1Check(t *testing.T) {
	for _, c := range slices.Concat(goodClusters, badClusters) {
		if e := Check(c.c); e != c.want {
			t.Errorf("%s: Check is %d, must be %d", c.name, e, c.want)
		}
	}
}

func TestI3Newest(t *testing.T) {
	for _, c := range slices.Concat(goodClusters, badClusters) {
		if n, e := Newest(c.c); n != c.newest || e != c.want {
			t.Errorf("%s: Newest is %d %d, must be %d %d", c.name, n, e, c.newest, c.want)
		}
	}
}

func expectPush(t *testing.T, c api.Cluster, p api.Push, up, late int, want api.Cluster, wantTold bool) {
	t.Helper()
	got, told, e := Push(c, p, up, late)
	if text(got) != text(want) || told != wantTold || e != api.OK {
		t.Errorf("Push to %v of %v, %d %d, is %v %v %d, must be %v %v", c, p, up, late, got, told, e, want, wantTold)
	}
}

func expectNoPush(t *testing.T, c api.Cluster, p api.Push, up, late int, want api.Errno) {
	t.Helper()
	if got, told, e := Push(c, p, up, late); text(got) != text(api.Cluster{}) || told || e != want {
		t.Errorf("Push to %v of %v, %d %d, is %v %v %d, must be nothing, and %d", c, p, up, late, got, told, e, want)
	}
}

func TestI2AllTakePart(t *testing.T) {
	first := api.Push{Objects: history()[:3], Updates: ups(up("main", 0, 3))}
	expectPush(t, New(), first, 7, 0, of(young(1), young(1), young(1)), true)
	c := of(young(5), young(5), young(5))
	expectPush(t, c, next(), 7, 0, of(grown(6), grown(6), grown(6)), true)
	// Who was late votes, and has what it had.
	expectPush(t, c, next(), 7, 1, of(young(5), grown(6), grown(6)), true)
	expectPush(t, c, next(), 7, 2, of(grown(6), young(5), grown(6)), true)
	expectPush(t, c, next(), 7, 4, of(grown(6), grown(6), young(5)), true)
	// If one alone would commit, it does not either.
	for _, late := range []int{3, 5, 6, 7} {
		expectPush(t, c, next(), 7, late, c, false)
	}
}

func TestI2SomeTakePart(t *testing.T) {
	c := of(young(5), young(5), young(5))
	expectPush(t, c, next(), 3, 0, of(grown(6), grown(6), young(5)), true)
	expectPush(t, c, next(), 5, 0, of(grown(6), young(5), grown(6)), true)
	expectPush(t, c, next(), 6, 0, of(young(5), grown(6), grown(6)), true)
	// Who takes no part may well be late.
	expectPush(t, c, next(), 3, 4, of(grown(6), grown(6), young(5)), true)
	expectPush(t, c, next(), 6, 1, of(young(5), grown(6), grown(6)), true)
	for _, t2 := range [][2]int{{0, 0}, {1, 0}, {2, 0}, {4, 0}, {3, 1}, {3, 2}, {5, 4}, {6, 6}, {0, 7}} {
		expectPush(t, c, next(), t2[0], t2[1], c, false)
	}
}

func TestI2WhoIsNotIdleTakesNoPart(t *testing.T) {
	for _, phase := range []int{api.Prepared, api.Voted} {
		for _, held := range []api.Push{next(), lacking()} {
			h := holds(5, phase, held)
			expectPush(t, of(h, young(5), young(5)), next(), 7, 0, of(h, grown(6), grown(6)), true)
			expectPush(t, of(young(5), h, young(5)), next(), 7, 2, of(grown(6), h, grown(6)), true)
			for _, c := range []api.Cluster{of(h, h, young(5)), of(h, h, h)} {
				expectPush(t, c, next(), 7, 0, c, false)
			}
			c := of(young(5), young(5), h)
			expectPush(t, c, next(), 7, 1, c, false)
			expectPush(t, c, next(), 6, 0, c, false)
		}
	}
}

func TestI2WhoVotesOtherwiseDoesNotCommit(t *testing.T) {
	// One that is behind has another Gen to say.
	expectPush(t, of(young(4), young(5), young(5)), next(), 7, 0, of(young(4), grown(6), grown(6)), true)
	c := of(young(5), young(4), young(5))
	expectPush(t, c, next(), 3, 0, c, false)
	expectPush(t, c, next(), 6, 0, c, false)
	expectPush(t, c, next(), 7, 4, c, false)
	// One that has another object 4 says no.
	expectPush(t, of(young(5), young(5), odd(5)), next(), 7, 0, of(grown(6), grown(6), odd(5)), true)
	c = of(young(5), odd(5), odd(5))
	expectPush(t, c, next(), 7, 0, c, false)
	// One that has what the push lacks says yes.
	c = of(rich(5), young(5), young(5))
	expectPush(t, c, lacking(), 7, 0, c, false)
	main := api.Replica{Store: history()[:6], Refs: []api.Ref{ref("main", 6)}, Gen: 6}
	expectPush(t, of(rich(5), young(5), rich(5)), lacking(), 7, 0, of(main, young(5), main), true)
	c = of(rich(5), young(5), rich(5))
	expectPush(t, c, lacking(), 7, 1, c, false)
}

func TestI2WhatMostCanNotDo(t *testing.T) {
	c := of(young(5), young(5), young(5))
	other := api.Push{Objects: []api.Object{obj(9, api.Commit, "", 2)}, Updates: ups(up("main", 3, 9))}
	for _, p := range []api.Push{lacking(), other, {Updates: ups(up("main", 0, 3))}, {Updates: ups(up("x", 0, 1))}, {Updates: ups(up("main/x", 0, 3))}, {Updates: ups(up("x", 0, 50))}} {
		for up := range 8 {
			expectPush(t, c, p, up, 0, c, false)
		}
	}
	// By force it is done.
	other.Force = true
	forced := api.Replica{Store: append(history()[:3], other.Objects...), Refs: []api.Ref{ref("main", 9)}, Gen: 6}
	expectPush(t, c, other, 7, 0, of(forced, forced, forced), true)
	// What changes no name is a push all the same.
	expectPush(t, c, api.Push{Updates: ups(up("main", 3, 3))}, 7, 0, of(young(6), young(6), young(6)), true)
	expectPush(t, c, api.Push{Updates: ups(up("main", 3, 0))}, 3, 0, of(bare(6), bare(6), young(5)), true)
}

var badPushes = []struct {
	p    api.Push
	want api.Errno
}{
	{api.Push{}, api.ErrNone},
	{api.Push{Objects: history(), Force: true}, api.ErrNone},
	{api.Push{Objects: make([]api.Object, 13), Updates: ups(up("x", 0, 3))}, api.ErrMany},
	{api.Push{Objects: make([]api.Object, 1), Updates: ups(up("x", 0, 3))}, api.ErrRange},
	{api.Push{Objects: []api.Object{obj(1, 9, "")}}, api.ErrKind},
	{api.Push{Updates: make([]api.Update, 5)}, api.ErrMany},
	{api.Push{Updates: ups(up("X", 0, 3))}, api.ErrForm},
	{api.Push{Updates: ups(up("x", 0, -1))}, api.ErrRange},
	{api.Push{Updates: ups(up("x", 0, 3), up("x", 0, 3))}, api.ErrTwice},
}

var badBits = []int{-1, 8, 9, 16, -8, math.MinInt, math.MaxInt}

func TestI2Errors(t *testing.T) {
	for _, c := range badClusters {
		for _, p := range []api.Push{next(), {}, {Updates: ups(up("X", 0, 3))}} {
			expectNoPush(t, c.c, p, 7, 0, c.want)
			expectNoPush(t, c.c, p, 0, 0, c.want)
			expectNoPush(t, c.c, p, -1, 8, c.want)
		}
	}
	last := of(young(999), young(999), young(999))
	for _, c := range []api.Cluster{New(), of(young(5), young(5), young(5)), of(holds(5, api.Voted, next()), holds(5, api.Prepared, next()), young(5)), last} {
		for _, b := range badPushes {
			expectNoPush(t, c, b.p, 7, 0, b.want)
			expectNoPush(t, c, b.p, 0, 7, b.want)
			expectNoPush(t, c, b.p, -1, 8, b.want)
		}
		for _, bits := range badBits {
			expectNoPush(t, c, next(), bits, 0, api.ErrRange)
			expectNoPush(t, c, next(), 7, bits, api.ErrRange)
			expectNoPush(t, c, next(), bits, bits, api.ErrRange)
		}
	}
}

func TestI2TheGreatestGen(t *testing.T) {
	c := of(young(998), young(998), young(998))
	expectPush(t, c, next(), 7, 0, of(grown(999), grown(999), grown(999)), true)
	last := of(young(999), young(999), young(999))
	for _, b := range [][2]int{{7, 0}, {3, 0}, {5, 0}, {6, 0}, {7, 1}, {7, 4}, {3, 4}} {
		expectNoPush(t, last, next(), b[0], b[1], api.ErrMany)
	}
	expectNoPush(t, of(young(998), young(999), young(999)), next(), 7, 0, api.ErrMany)
	// Where nobody commits, nobody's Gen would be too great.
	for _, b := range [][2]int{{0, 0}, {1, 0}, {4, 0}, {7, 3}, {7, 7}, {3, 1}} {
		expectPush(t, last, next(), b[0], b[1], last, false)
	}
	expectPush(t, last, lacking(), 7, 0, last, false)
	mixed := of(young(998), young(999), young(999))
	expectPush(t, mixed, next(), 3, 0, mixed, false)
	held := of(young(999), holds(999, api.Voted, next()), holds(999, api.Prepared, next()))
	expectPush(t, held, next(), 7, 0, held, false)
}

// foretold: what a push comes to, worked out from Try and Gen alone.
func foretold(c api.Cluster, p api.Push, up, late int) (api.Cluster, bool, api.Errno) {
	after := of(slices.Clone(c.Replicas)...)
	var yes, stay []int
	for i, r := range c.Replicas {
		if _, _, e := push.Try(r, p); e == api.OK && r.Phase == api.Idle && up&(1<<i) != 0 {
			yes = append(yes, i)
		}
	}
	for _, i := range yes {
		same := 0
		for _, k := range yes {
			if c.Replicas[k].Gen == c.Replicas[i].Gen {
				same++
			}
		}
		if same >= 2 && late&(1<<i) == 0 {
			stay = append(stay, i)
		}
	}
	if len(stay) < 2 {
		return after, false, api.OK
	}
	for _, i := range stay {
		r := c.Replicas[i]
		objects, names, _ := push.Try(r, p)
		if r.Gen == api.MaxGen {
			return api.Cluster{}, false, api.ErrMany
		}
		after.Replicas[i] = api.Replica{Store: objects, Refs: names, Gen: r.Gen + 1}
	}
	return after, true, api.OK
}

// TestI2EveryWay of being up and late, of all kinds of replicas.
func TestI2EveryWay(t *testing.T) {
	kinds := []api.Replica{young(4), young(5), rich(5), odd(5), bare(4), holds(5, api.Voted, next()), young(999)}
	told := 0
	for n := range len(kinds) * len(kinds) * len(kinds) {
		c := of(kinds[n%len(kinds)], kinds[n/len(kinds)%len(kinds)], kinds[n/len(kinds)/len(kinds)])
		if Check(c) != api.OK {
			continue
		}
		for bits := range 64 {
			for _, p := range []api.Push{next(), lacking()} {
				got, ok, e := Push(c, p, bits&7, bits>>3)
				want, wantOk, wantErr := foretold(c, p, bits&7, bits>>3)
				if text(got) != text(want) || ok != wantOk || e != wantErr {
					t.Fatalf("Push to %v of %v, %d %d, is %v %v %d, must be %v %v %d", c, p, bits&7, bits>>3, got, ok, e, want, wantOk, wantErr)
				}
				if ok {
					told++
				}
			}
		}
	}
	if told < 300 {
		t.Errorf("only %d pushes were done: they do not try the promise", told)
	}
}

// draw numbers, the same each time.
type draw uint64

func (d *draw) below(n int) int {
	*d = *d*6364136223846793005 + 1442695040888963407
	return int(uint64(*d) >> 33 % uint64(n))
}

// push that often can be done from refs on.
func (d *draw) push(names []api.Ref) api.Push {
	p := api.Push{Objects: history(), Force: d.below(2) == 0}
	if d.below(4) == 0 {
		p.Objects = history()[d.below(9):]
	}
	for _, name := range []string{"a", "b/c", "main"} {
		u := up(name, 0, []int{0, 3, 6, 7, 8, 8}[d.below(6)])
		for _, n := range names {
			if n.Name == name {
				u.Old = n.Id
			}
		}
		if d.below(2) == 0 && u.Old+u.New > 0 {
			p.Updates = append(p.Updates, u)
		}
	}
	if len(p.Updates) == 0 {
		p.Updates = ups(up("z", 0, 3))
	}
	return p
}

// disturb one replica: it holds something apart, crashes, or is made like the newest one.
func (d *draw) disturb(t *testing.T, c api.Cluster) api.Cluster {
	t.Helper()
	l := slices.Clone(c.Replicas)
	i := d.below(3)
	n, _ := Newest(c)
	e := api.OK
	switch d.below(3) {
	case 0:
		if l[i].Phase == api.Idle {
			l[i], e = replica.Prepare(l[i], next())
		}
	case 1:
		l[i], e = replica.Crash(l[i])
	case 2:
		l[i] = l[n]
	}
	if e != api.OK {
		t.Fatalf("replica %d of %v: %d", i, c, e)
	}
	return of(l...)
}

// TestI4 goes through long scripts: what was told true is at more than half, in its order; what was told false, nowhere.
func TestI4(t *testing.T) {
	d := new(draw)
	yes, no := 0, 0
	for range 150 {
		c := New()
		var names []api.Ref
		done := 0
		for range 25 {
			c = d.disturb(t, c)
			p := d.push(names)
			after, told, e := Push(c, p, []int{7, 7, d.below(8)}[d.below(3)], []int{0, d.below(8)}[d.below(2)])
			if e != api.OK || Check(after) != api.OK {
				t.Fatalf("Push to %v of %v: %d; Check %d", c, p, e, Check(after))
			}
			if told {
				n, _ := Newest(after)
				_, names, e = push.Try(api.Replica{Store: after.Replicas[n].Store, Refs: names}, p)
				done++
				yes++
			} else {
				no++
				if text(after) != text(c) {
					t.Fatalf("a push that was told false made %v of %v", after, c)
				}
			}
			has := 0
			for _, r := range after.Replicas {
				if r.Gen == done && fmt.Sprint(r.Refs) == fmt.Sprint(names) {
					has++
				}
			}
			if e != api.OK || has < 2 {
				t.Fatalf("%d pushes were told true, so that the refs are %v: %v", done, names, after)
			}
			c = after
		}
	}
	if yes < 300 || no < 300 {
		t.Errorf("%d pushes were told true, %d false: the draw does not try the promise", yes, no)
	}
}

// rooms of all lists in a value, spare room too: where each begins and ends.
func rooms(v reflect.Value) [][2]uintptr {
	var l [][2]uintptr
	switch v.Kind() {
	case reflect.Struct:
		for i := range v.NumField() {
			l = append(l, rooms(v.Field(i))...)
		}
	case reflect.Slice:
		if v.Cap() > 0 {
			l = append(l, [2]uintptr{v.Pointer(), v.Pointer() + uintptr(v.Cap())*v.Type().Elem().Size()})
		}
		for i := range v.Len() {
			l = append(l, rooms(v.Index(i))...)
		}
	}
	return l
}

// expectOwn: no list of what came shares room with another one of it, or with one of what was handed in.
func expectOwn(t *testing.T, came api.Cluster, handed ...any) {
	t.Helper()
	own := rooms(reflect.ValueOf(came))
	var others [][2]uintptr
	for _, h := range handed {
		others = append(others, rooms(reflect.ValueOf(h))...)
	}
	for i, a := range own {
		for _, b := range append(own[:i:i], others...) {
			if a[0] < b[1] && b[0] < a[1] {
				t.Fatalf("two lists share memory: %v, %v", came, handed)
			}
		}
	}
}

// crowded: a cluster and a push, with spare room behind each list, which share as much as a caller may.
func crowded() (api.Cluster, api.Push, func() string) {
	links := []int{1, 2, 4, 77}
	objects := append(make([]api.Object, 0, 20), history()...)
	objects[1].Links, objects[4].Links = links[:1], links[:3]
	objects[:9][8] = obj(91, api.Blob, "spare")
	names := append(make([]api.Ref, 0, 4), ref("main", 3))
	names[:2][1] = ref("spare", 9)
	us := append(make([]api.Update, 0, 4), up("main", 3, 6), up("b", 0, 3))
	us[:3][2] = up("spare", 9, 9)
	p := api.Push{Objects: objects[3:6], Updates: us}
	r := api.Replica{Store: objects[:3], Refs: names, Gen: 4}
	held := r
	held.Phase, held.Pending = api.Prepared, p
	l := []api.Replica{r, r, held, young(77)}
	return of(l[:3]...), p, func() string { return fmt.Sprint(objects[:9], names[:2], us[:3], links, l, p) }
}

func TestP2Push(t *testing.T) {
	for bits := range 64 {
		c, p, all := crowded()
		was := all()
		got, _, e := Push(c, p, bits&7, bits>>3)
		if e != api.OK || all() != was {
			t.Fatalf("errno %d; it was %s, and is %s", e, was, all())
		}
		expectOwn(t, got, c, p)
		// It answers the same again, whatever became of what it answered.
		first := text(got)
		for _, r := range got.Replicas {
			clear(r.Store)
			clear(r.Refs)
			clear(r.Pending.Updates)
		}
		clear(got.Replicas)
		if again, _, _ := Push(c, p, bits&7, bits>>3); text(again) != first {
			t.Errorf("it was %s, and then %s", first, text(again))
		}
	}
}

func TestP2CheckAndNewest(t *testing.T) {
	c, _, all := crowded()
	was := all()
	if n, e := Newest(c); n != 0 || e != api.OK || Check(c) != api.OK || all() != was {
		t.Errorf("Newest is %d %d; it was %s, and is %s", n, e, was, all())
	}
}
