package desk

import (
	"fmt"
	"slices"
	"strings"
	"testing"

	"forestay/api"
	"forestay/cluster"
	"forestay/diff"
	"forestay/object"
	"forestay/push"
	"forestay/refs"
	"forestay/repair"
	"forestay/replica"
	"forestay/store"
	"forestay/walk"
)

// draw numbers, the same each time.
type draw uint64

func (d *draw) below(n int) int {
	*d = *d*6364136223846793005 + 1442695040888963407
	return int(uint64(*d) >> 33 % uint64(n))
}

// push that often can be done from names on, which a map keeps by themselves.
func (d *draw) push(names map[string]int) api.Push {
	p := api.Push{Objects: history(), Force: d.below(2) == 0}
	if d.below(3) == 0 {
		p.Objects = history()[d.below(9):]
	}
	for _, name := range []string{"a", "b/c", "main", "z"} {
		u := up(name, names[name], []int{0, 3, 6, 7, 8, 8}[d.below(6)])
		if d.below(12) == 0 {
			u.Old = 3
		}
		if d.below(2) == 0 && u.Old+u.New > 0 {
			p.Updates = append(p.Updates, u)
		}
	}
	if len(p.Updates) == 0 {
		p.Updates = ups(up("main", names["main"], 8))
	}
	return p
}

// act: a push, most often; a repair; a crash; now and then something wrong.
func (d *draw) act(names map[string]int) api.Act {
	switch d.below(10) {
	case 0, 1:
		return repairing(d.below(3))
	case 2:
		return crashing(d.below(3))
	case 3:
		return []api.Act{{}, {Kind: 9}, repairing(3), crashing(-1), pushing(api.Push{}, 7, 0), {Kind: api.ActCrash, Late: 1}}[d.below(6)]
	}
	return pushing(d.push(names), []int{7, 7, d.below(8)}[d.below(3)], []int{0, d.below(8)}[d.below(2)])
}

// holdApart something at one replica, as if its leader were gone: nobody sees it.
func (d *draw) holdApart(t *testing.T, c api.Cluster, p api.Push) api.Cluster {
	t.Helper()
	l := slices.Clone(c.Replicas)
	i := d.below(3)
	if l[i].Phase != api.Idle {
		return c
	}
	var e api.Errno
	l[i], e = replica.Prepare(l[i], p)
	if e == api.OK && d.below(2) == 0 {
		l[i], _, e = replica.Vote(l[i])
	}
	if e != api.OK {
		t.Fatalf("replica %d of %+v: errno %d", i, c, e)
	}
	return of(l...)
}

// shown: what must be shown of so many pushes that were told true, and of the names that they led to.
func shown(gen int, names map[string]int) string {
	var l []string
	for name, id := range names {
		l = append(l, fmt.Sprintf("%s=%d;", name, id))
	}
	slices.Sort(l)
	return fmt.Sprintf("%d:%s", gen, strings.Join(l, ""))
}

func follow(names map[string]int, us []api.Update) {
	for _, u := range us {
		names[u.Name] = u.New
		if u.New == 0 {
			delete(names, u.Name)
		}
	}
}

// TestL3 goes through long scripts, in which replicas are late, are away, crash, and hold things apart.
func TestL3(t *testing.T) {
	d := new(draw)
	counts := map[string]int{}
	for range 120 {
		c := cluster.New()
		names, gen := map[string]int{}, 0
		for range 30 {
			if d.below(5) == 0 {
				c = d.holdApart(t, c, d.push(names))
			}
			a := d.act(names)
			after, told, e := Do(c, a)
			counts[fmt.Sprint(a.Kind, told, e == api.OK)]++
			if e == api.OK {
				c = after
			}
			if told && a.Kind == api.ActPush {
				follow(names, a.Push.Updates)
				gen++
			}
			if s, e := Show(c); s != shown(gen, names) || e != api.OK {
				t.Fatalf("behind %+v it shows %q %d, must be %q: %+v", a, s, e, shown(gen, names), c)
			}
		}
	}
	for _, kind := range []string{"1 true true", "1 false true", "2 true true", "3 true true"} {
		if counts[kind] < 200 {
			t.Errorf("the draw does not try the promise: %v", counts)
		}
	}
}

// TestWholeScripts: what the whole promises, of scripts that are run.
func TestWholeScripts(t *testing.T) {
	d := new(draw)
	yes, no := 0, 0
	for range 150 {
		var l []api.Act
		c := cluster.New()
		names := map[string]int{}
		var wantTold []bool
		var wantErrnos []api.Errno
		for range api.MaxScript {
			a := d.act(names)
			after, told, e := Do(c, a)
			l, wantTold, wantErrnos = append(l, a), append(wantTold, told), append(wantErrnos, e)
			if e != api.OK {
				continue
			}
			expectWhole(t, c, after)
			switch {
			case a.Kind == api.ActPush && told:
				follow(names, a.Push.Updates)
				expectAtMost(t, c, after, a)
				yes++
			case a.Kind == api.ActPush:
				no++
				if text(after) != text(c) {
					t.Fatalf("%+v was told false, and is somewhere: %+v", a, after)
				}
			case a.Kind == api.ActRepair:
				expectLikeNewest(t, after, a.Of)
			}
			expectAnyOrder(t, c, a, after, told)
			c = after
		}
		expectRun(t, l, c, wantTold, wantErrnos)
		expectAllRepaired(t, c)
	}
	if yes < 200 || no < 200 {
		t.Errorf("%d pushes were told true, %d false: the draw does not try the promise", yes, no)
	}
}

// expectWhole: nothing is lost, all links are there, each name is of a commit, what is encoded is decoded as it was.
func expectWhole(t *testing.T, before, after api.Cluster) {
	t.Helper()
	for i, r := range after.Replicas {
		if e := refs.Check(r.Refs, r.Store); e != api.OK {
			t.Fatalf("replica %d of %+v: Check is %d", i, after, e)
		}
		for _, o := range before.Replicas[i].Store {
			if got, e := store.Find(r.Store, o.Id); e != api.OK || text(got) != text(o) {
				t.Fatalf("object %+v of replica %d is lost: %+v", o, i, after)
			}
		}
		for _, o := range r.Store {
			s, _ := object.Encode(o)
			if got, n, e := object.Decode(s + "behind"); text(got) != text(o) || n != len(s) || e != api.OK {
				t.Fatalf("%+v is decoded as %+v %d %d", o, got, n, e)
			}
		}
		for _, n := range r.Refs {
			if part, e := walk.Part(r.Store, []int{n.Id}); e != api.OK || store.Check(part) != api.OK {
				t.Fatalf("what %s reaches is no store: %+v %d", n.Name, part, e)
			}
		}
	}
}

// expectAtMost: more than half did a push that was told true, and it needed nothing there.
func expectAtMost(t *testing.T, before, after api.Cluster, a api.Act) {
	t.Helper()
	did := 0
	for i, r := range after.Replicas {
		if r.Gen == before.Replicas[i].Gen {
			continue
		}
		did++
		need, e := push.Needs(before.Replicas[i].Store, a.Push)
		if len(need) > 0 || e != api.OK {
			t.Fatalf("replica %d did %+v, which needs %v", i, a, need)
		}
		objects, names, e := push.Try(before.Replicas[i], a.Push)
		if e != api.OK || text(objects) != text(r.Store) || text(names) != text(r.Refs) {
			t.Fatalf("replica %d did %+v otherwise than it was tried: %+v", i, a, r)
		}
	}
	if 2*did <= api.Replicas {
		t.Fatalf("%+v was told true, and %d did it: %+v", a, did, after)
	}
}

// expectLikeNewest: a replica that was repaired lacks nothing that the newest one has.
func expectLikeNewest(t *testing.T, c api.Cluster, i int) {
	t.Helper()
	n, _ := cluster.Newest(c)
	objects, e := diff.Objects(c.Replicas[n].Store, c.Replicas[i].Store)
	lead, f := diff.Refs(c.Replicas[n].Refs, c.Replicas[i].Refs)
	if len(objects) > 0 || len(lead) > 0 || e != api.OK || f != api.OK {
		t.Fatalf("replica %d of %+v is repaired, and lacks %+v %+v (%d %d)", i, c, objects, lead, e, f)
	}
}

// expectAnyOrder: the other way round, updates and objects of a push come to the same.
func expectAnyOrder(t *testing.T, c api.Cluster, a api.Act, want api.Cluster, told bool) {
	t.Helper()
	a.Push.Objects, a.Push.Updates = slices.Clone(a.Push.Objects), slices.Clone(a.Push.Updates)
	slices.Reverse(a.Push.Objects)
	slices.Reverse(a.Push.Updates)
	expectDone(t, c, a, want, told)
}

// expectAllRepaired: behind a repair of all, each one by itself shows what all show.
func expectAllRepaired(t *testing.T, c api.Cluster) {
	t.Helper()
	want, _ := Show(c)
	after, _, e := repair.All(c)
	if e != api.OK {
		t.Fatalf("All of %+v has errno %d", c, e)
	}
	for _, r := range after.Replicas {
		if s, _ := Show(of(r, r, r)); s != want {
			t.Fatalf("one shows %q, all of them %q: %+v", s, want, after)
		}
	}
}

// TestWholeExample: the document's own.
func TestWholeExample(t *testing.T) {
	l := []api.Act{pushing(first(), 3, 0), pushing(next(), 5, 0), repairing(2), pushing(next(), 5, 0), repairing(1)}
	for i, want := range []string{"1:main=3;", "1:main=3;", "1:main=3;", "2:b=3;main=6;", "2:b=3;main=6;"} {
		c, told, errnos, e := Run(l[:i+1])
		s, f := Show(c)
		if s != want || told[i] != (i != 1) || errnos[i] != api.OK || e != api.OK || f != api.OK {
			t.Errorf("behind act %d it shows %q %d, must be %q; %v %v %d", i, s, f, want, told, errnos, e)
		}
	}
	expectRun(t, l, of(grown(2), grown(2), grown(2)), []bool{true, false, true, true, true}, make([]api.Errno, 5))
}
