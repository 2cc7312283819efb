package replica

import (
	"fmt"
	"math"
	"reflect"
	"slices"
	"testing"

	"forestay/api"
	"forestay/push"
	"forestay/vote"
)

func obj(id, kind int, text string, links ...int) api.Object {
	return api.Object{Id: id, Kind: kind, Links: links, Text: text}
}

func ref(name string, id int) api.Ref { return api.Ref{Name: name, Id: id} }

func up(name string, was, now int) api.Update { return api.Update{Name: name, Old: was, New: now} }

func ups(l ...api.Update) []api.Update { return l }

// history: commit 3, then 6 and 7 from it, and 8 from both.
func history() []api.Object {
	return []api.Object{obj(1, api.Blob, "one"), obj(2, api.Tree, "", 1), obj(3, api.Commit, "c1", 2), obj(4, api.Blob, "two"), obj(5, api.Tree, "", 1, 2, 4), obj(6, api.Commit, "c2", 5, 3), obj(7, api.Commit, "c3", 2, 3), obj(8, api.Commit, "c4", 5, 6, 7)}
}

// next: a push that a young replica can do.
func next() api.Push {
	return api.Push{Objects: history()[3:6], Updates: ups(up("main", 3, 6), up("b", 0, 3))}
}

// lacking: a push that a young replica can hold apart, but not do.
func lacking() api.Push {
	return api.Push{Objects: history()[4:6], Updates: ups(up("main", 3, 6))}
}

// young: an Idle replica with the first commit of history alone.
func young(gen int) api.Replica {
	return api.Replica{Store: history()[:3], Refs: []api.Ref{ref("main", 3)}, Gen: gen}
}

// holds: a young replica that holds a push apart, in a phase.
func holds(gen, phase int, p api.Push) api.Replica {
	r := young(gen)
	r.Phase, r.Pending = phase, p
	return r
}

// grown: a young replica that has done next.
func grown(gen int) api.Replica {
	return api.Replica{Store: history()[:6], Refs: []api.Ref{ref("b", 3), ref("main", 6)}, Gen: gen}
}

// text of a replica, in which an empty list and none are the same.
func text(r api.Replica) string { return fmt.Sprintf("%+v", r) }

func nothing(r api.Replica) bool { return text(r) == text(api.Replica{}) }

type replicaCase struct {
	name string
	r    api.Replica
	want api.Errno
}

var emptyLists = api.Push{Objects: []api.Object{}, Updates: []api.Update{}}

var goodReplicas = []replicaCase{
	{"without anything", api.Replica{}, api.OK},
	{"with empty lists", api.Replica{Store: []api.Object{}, Refs: []api.Ref{}, Pending: emptyLists}, api.OK},
	{"young", young(0), api.OK},
	{"a store without refs", api.Replica{Store: history()}, api.OK},
	{"of the greatest Gen", young(api.MaxGen), api.OK},
	{"Idle, with empty lists", holds(1, api.Idle, emptyLists), api.OK},
	{"Prepared", holds(1, api.Prepared, next()), api.OK},
	{"Voted", holds(1, api.Voted, next()), api.OK},
	{"Prepared, what can't be done", holds(1, api.Prepared, lacking()), api.OK},
	{"Voted, what can't be done", holds(1, api.Voted, lacking()), api.OK},
	{"Voted, by force", holds(999, api.Voted, api.Push{Updates: ups(up("main", 3, 0)), Force: true}), api.OK},
}

// spoilt: a replica that something was done to.
func spoilt(r api.Replica, do func(r *api.Replica)) api.Replica {
	do(&r)
	return r
}

var badReplicas = []replicaCase{
	{"a store of too many", api.Replica{Store: make([]api.Object, 41)}, api.ErrMany},
	{"an object without anything", api.Replica{Store: make([]api.Object, 1)}, api.ErrRange},
	{"a link to none", api.Replica{Store: history()[1:]}, api.ErrNone},
	{"objects that do not rise", api.Replica{Store: append(history(), history()[0])}, api.ErrState},
	{"too many refs", api.Replica{Refs: make([]api.Ref, 9)}, api.ErrMany},
	{"a ref of no name", api.Replica{Store: history(), Refs: []api.Ref{ref("", 3)}}, api.ErrForm},
	{"refs that do not rise", api.Replica{Store: history(), Refs: []api.Ref{ref("b", 3), ref("a", 3)}}, api.ErrState},
	{"a ref of none", api.Replica{Store: history()[:3], Refs: []api.Ref{ref("a", 6)}}, api.ErrNone},
	{"a ref of a tree", api.Replica{Store: history(), Refs: []api.Ref{ref("a", 2)}}, api.ErrKind},
	{"a name in a name", api.Replica{Store: history(), Refs: []api.Ref{ref("a", 3), ref("a/b", 3)}}, api.ErrTwice},
	{"Gen below 0", young(-1), api.ErrRange},
	{"Gen too great", young(1000), api.ErrRange},
	{"the least Gen", young(math.MinInt), api.ErrRange},
	{"a far too great Gen", young(math.MaxInt), api.ErrRange},
	{"a phase below Idle", holds(1, -1, next()), api.ErrKind},
	{"a phase beyond Voted", holds(1, 3, next()), api.ErrKind},
	{"a phase beyond Voted, holding nothing", holds(1, 3, api.Push{}), api.ErrKind},
	{"the least phase", holds(1, math.MinInt, api.Push{}), api.ErrKind},
	{"the greatest phase", holds(1, math.MaxInt, api.Push{}), api.ErrKind},
	{"Idle with a push", holds(1, api.Idle, next()), api.ErrForm},
	{"Idle with objects", holds(1, api.Idle, api.Push{Objects: history()[:1]}), api.ErrForm},
	{"Idle with updates", holds(1, api.Idle, api.Push{Updates: ups(up("main", 3, 0))}), api.ErrForm},
	{"Idle with force", holds(1, api.Idle, api.Push{Force: true}), api.ErrForm},
	{"Idle with a wrong push", holds(1, api.Idle, api.Push{Objects: make([]api.Object, 13)}), api.ErrForm},
	{"Idle, without anything else, with force", api.Replica{Pending: api.Push{Force: true}}, api.ErrForm},
	{"Prepared with nothing", holds(1, api.Prepared, api.Push{}), api.ErrNone},
	{"Voted with nothing", holds(1, api.Voted, api.Push{}), api.ErrNone},
	{"Voted with empty lists", holds(1, api.Voted, emptyLists), api.ErrNone},
	{"Prepared with too many objects", holds(1, api.Prepared, api.Push{Objects: make([]api.Object, 13)}), api.ErrMany},
	{"Prepared with an object of no kind", holds(1, api.Prepared, api.Push{Objects: []api.Object{obj(1, 9, "")}, Updates: ups(up("main", 3, 0))}), api.ErrKind},
	{"Voted with a name twice", holds(1, api.Voted, api.Push{Updates: ups(up("main", 3, 6), up("main", 6, 8))}), api.ErrTwice},
	{"Voted with a number too great", holds(1, api.Voted, api.Push{Updates: ups(up("main", 3, 100))}), api.ErrRange},
	{"the store ahead of the refs", api.Replica{Store: history()[1:], Refs: make([]api.Ref, 9)}, api.ErrNone},
	{"the store ahead of Gen", api.Replica{Store: history()[1:], Gen: -1}, api.ErrNone},
	{"the refs ahead of Gen", spoilt(young(-1), func(r *api.Replica) { r.Refs[0].Id = 1 }), api.ErrKind},
	{"the refs ahead of the phase", spoilt(holds(1, 9, next()), func(r *api.Replica) { r.Refs[0].Id = 9 }), api.ErrNone},
	{"the refs ahead of Pending", spoilt(holds(1, 0, next()), func(r *api.Replica) { r.Refs[0].Id = 9 }), api.ErrNone},
	{"Gen ahead of the phase", holds(-1, 3, next()), api.ErrRange},
	{"Gen ahead of Pending", holds(1000, api.Idle, next()), api.ErrRange},
	{"Gen ahead of what is held apart", holds(1000, api.Voted, api.Push{}), api.ErrRange},
	{"the phase ahead of what is held apart", holds(1, 3, api.Push{Objects: make([]api.Object, 13)}), api.ErrKind},
}

func TestH1Check(t *testing.T) {
	for _, c := range slices.Concat(goodReplicas, badReplicas) {
		if e := Check(c.r); e != c.want {
			t.Errorf("%s: Check is %d, must be %d", c.name, e, c.want)
		}
	}
}

var badPushes = []struct {
	p    api.Push
	want api.Errno
}{
	{api.Push{}, api.ErrNone},
	{api.Push{Objects: history(), Force: true}, api.ErrNone},
	{api.Push{Objects: make([]api.Object, 13), Updates: ups(up("x", 0, 3))}, api.ErrMany},
	{api.Push{Objects: make([]api.Object, 1), Updates: ups(up("x", 0, 3))}, api.ErrRange},
	{api.Push{Objects: []api.Object{obj(1, 9, "")}}, api.ErrKind},
	{api.Push{Updates: make([]api.Update, 5)}, api.ErrMany},
	{api.Push{Updates: ups(up("X", 0, 3))}, api.ErrForm},
	{api.Push{Updates: ups(up("x", 0, -1))}, api.ErrRange},
	{api.Push{Updates: ups(up("x", 0, 3), up("x", 0, 3))}, api.ErrTwice},
}

// expectIs: a call answered a replica, or nothing and an errno.
func expectIs(t *testing.T, what string, r api.Replica, e api.Errno, want api.Replica, wantErr api.Errno) {
	t.Helper()
	if text(r) != text(want) || e != wantErr {
		t.Errorf("%s is %v %d, must be %v %d", what, r, e, want, wantErr)
	}
}

func TestH2Prepare(t *testing.T) {
	force := next()
	force.Force = true
	for _, p := range []api.Push{next(), lacking(), force, {Updates: ups(up("gone", 50, 60))}, {Objects: []api.Object{obj(1, api.Blob, "other")}, Updates: ups(up("main/x", 0, 1))}} {
		for _, gen := range []int{0, 41, 999} {
			r, e := Prepare(young(gen), p)
			expectIs(t, "Prepare", r, e, holds(gen, api.Prepared, p), api.OK)
			if Check(r) != api.OK {
				t.Errorf("what is prepared is no replica: %d", Check(r))
			}
		}
	}
	r, e := Prepare(api.Replica{}, next())
	expectIs(t, "Prepare of one without anything", r, e, api.Replica{Phase: api.Prepared, Pending: next()}, api.OK)
}

func TestH2PrepareErrors(t *testing.T) {
	for _, c := range badPushes {
		r, e := Prepare(young(1), c.p)
		expectIs(t, "Prepare of a wrong push", r, e, api.Replica{}, c.want)
		for _, phase := range []int{api.Prepared, api.Voted} {
			r, e := Prepare(holds(1, phase, next()), c.p)
			expectIs(t, "Prepare of a wrong push, held up", r, e, api.Replica{}, api.ErrState)
		}
	}
	for _, phase := range []int{api.Prepared, api.Voted} {
		r, e := Prepare(holds(1, phase, next()), next())
		expectIs(t, "Prepare of one that is not Idle", r, e, api.Replica{}, api.ErrState)
	}
}

func expectVoted(t *testing.T, r, want api.Replica, said string, wantErr api.Errno) {
	t.Helper()
	got, s, e := Vote(r)
	if text(got) != text(want) || s != said || e != wantErr {
		t.Errorf("Vote of %v is %v %q %d, must be %v %q %d", r, got, s, e, want, said, wantErr)
	}
}

func TestH2Vote(t *testing.T) {
	force := api.Push{Objects: []api.Object{obj(9, api.Commit, "", 2)}, Updates: ups(up("main", 3, 9)), Force: true}
	mild := force
	mild.Force = false
	for _, c := range []struct {
		p    api.Push
		said string
	}{
		{next(), "yes 41 b 0 3;main 3 6;"},
		{lacking(), "no 5"},
		{force, "yes 41 main 3 9;"},
		{mild, "no 4"},
		{api.Push{Updates: ups(up("x", 0, 1))}, "no 7"},
		{api.Push{Updates: ups(up("main/x", 0, 3))}, "no 6"},
	} {
		expectVoted(t, holds(41, api.Prepared, c.p), holds(41, api.Voted, c.p), c.said, api.OK)
	}
	// Whether Gen may be one more is not looked at yet.
	expectVoted(t, holds(999, api.Prepared, next()), holds(999, api.Voted, next()), "yes 999 b 0 3;main 3 6;", api.OK)
	expectVoted(t, holds(0, api.Prepared, next()), holds(0, api.Voted, next()), "yes 0 b 0 3;main 3 6;", api.OK)
}

func TestH2VoteErrors(t *testing.T) {
	expectVoted(t, young(1), api.Replica{}, "", api.ErrState)
	expectVoted(t, api.Replica{}, api.Replica{}, "", api.ErrState)
	expectVoted(t, holds(1, api.Voted, next()), api.Replica{}, "", api.ErrState)
	expectVoted(t, holds(1, api.Voted, lacking()), api.Replica{}, "", api.ErrState)
}

func expectFinished(t *testing.T, r api.Replica, commit bool, want api.Replica, wantErr api.Errno) {
	t.Helper()
	got, e := Finish(r, commit)
	expectIs(t, fmt.Sprintf("Finish (%v) of %v", commit, r), got, e, want, wantErr)
}

func TestH2FinishByACommit(t *testing.T) {
	expectFinished(t, holds(41, api.Voted, next()), true, grown(42), api.OK)
	expectFinished(t, holds(0, api.Voted, next()), true, grown(1), api.OK)
	expectFinished(t, holds(998, api.Voted, next()), true, grown(999), api.OK)
	gone := young(6)
	gone.Refs = nil
	expectFinished(t, holds(5, api.Voted, api.Push{Updates: ups(up("main", 3, 0))}), true, gone, api.OK)
	// Even what changes nothing is a push that it has done.
	expectFinished(t, holds(5, api.Voted, api.Push{Updates: ups(up("main", 3, 3))}), true, young(6), api.OK)
	force := api.Push{Objects: []api.Object{obj(9, api.Commit, "", 2)}, Updates: ups(up("main", 3, 9)), Force: true}
	forced := api.Replica{Store: append(history()[:3], obj(9, api.Commit, "", 2)), Refs: []api.Ref{ref("main", 9)}, Gen: 6}
	expectFinished(t, holds(5, api.Voted, force), true, forced, api.OK)
	first := api.Replica{Phase: api.Voted, Pending: api.Push{Objects: history()[:3], Updates: ups(up("main", 0, 3))}}
	expectFinished(t, first, true, young(1), api.OK)
}

func TestH2FinishWithoutACommit(t *testing.T) {
	for _, p := range []api.Push{next(), lacking(), {Updates: ups(up("x", 0, 1)), Force: true}} {
		for _, gen := range []int{0, 41, 998, 999} {
			expectFinished(t, holds(gen, api.Voted, p), false, young(gen), api.OK)
		}
	}
}

func TestH2FinishErrors(t *testing.T) {
	for _, c := range []struct {
		p    api.Push
		want api.Errno
	}{
		{lacking(), api.ErrNone},
		{api.Push{Updates: ups(up("main", 6, 3))}, api.ErrState},
		{api.Push{Updates: ups(up("x", 0, 1))}, api.ErrKind},
		{api.Push{Updates: ups(up("main/x", 0, 3))}, api.ErrTwice},
	} {
		// That of Try is ahead of a Gen that can't be one more.
		for _, gen := range []int{0, 41, 999} {
			expectFinished(t, holds(gen, api.Voted, c.p), true, api.Replica{}, c.want)
			expectFinished(t, holds(gen, api.Prepared, c.p), true, api.Replica{}, api.ErrState)
			expectFinished(t, holds(gen, api.Prepared, c.p), false, api.Replica{}, api.ErrState)
		}
	}
	expectFinished(t, holds(999, api.Voted, next()), true, api.Replica{}, api.ErrMany)
	for _, commit := range []bool{true, false} {
		expectFinished(t, young(1), commit, api.Replica{}, api.ErrState)
		expectFinished(t, young(999), commit, api.Replica{}, api.ErrState)
		expectFinished(t, holds(1, api.Prepared, next()), commit, api.Replica{}, api.ErrState)
		expectFinished(t, holds(999, api.Prepared, next()), commit, api.Replica{}, api.ErrState)
	}
}

func TestH2Crash(t *testing.T) {
	for _, gen := range []int{0, 41, 999} {
		for _, r := range []api.Replica{young(gen), holds(gen, api.Idle, emptyLists), holds(gen, api.Prepared, next()), holds(gen, api.Voted, next()), holds(gen, api.Voted, lacking())} {
			got, e := Crash(r)
			expectIs(t, "Crash", got, e, young(gen), api.OK)
		}
	}
	got, e := Crash(api.Replica{})
	expectIs(t, "Crash of one without anything", got, e, api.Replica{}, api.OK)
}

// TestH2WhatIsWrongWithAReplica is told ahead of its phase, and of a wrong push.
func TestH2WhatIsWrongWithAReplica(t *testing.T) {
	for _, c := range badReplicas {
		for _, p := range []api.Push{next(), {}, {Objects: make([]api.Object, 13)}} {
			r, e := Prepare(c.r, p)
			expectIs(t, c.name+": Prepare", r, e, api.Replica{}, c.want)
		}
		expectVoted(t, c.r, api.Replica{}, "", c.want)
		expectFinished(t, c.r, true, api.Replica{}, c.want)
		expectFinished(t, c.r, false, api.Replica{}, c.want)
		r, e := Crash(c.r)
		expectIs(t, c.name+": Crash", r, e, api.Replica{}, c.want)
	}
}

// draw numbers, the same each time.
type draw uint64

func (d *draw) below(n int) int {
	*d = *d*6364136223846793005 + 1442695040888963407
	return int(uint64(*d) >> 33 % uint64(n))
}

// push that often can be done, and now and then is none.
func (d *draw) push(r api.Replica) api.Push {
	p := api.Push{Objects: history(), Force: d.below(3) == 0}
	switch d.below(6) {
	case 0:
		p.Objects = history()[d.below(9):]
	case 1:
		p.Objects[d.below(8)].Text = "other"
	}
	for _, name := range []string{"a", "a/b", "main", "z"} {
		if d.below(3) > 0 {
			continue
		}
		u := up(name, 0, []int{0, 3, 6, 7, 8, 8, 1, 50}[d.below(8)])
		for _, n := range r.Refs {
			if n.Name == name && d.below(10) > 0 {
				u.Old = n.Id
			}
		}
		p.Updates = append(p.Updates, u)
	}
	return p
}

// shown: what others can see of a replica.
func shown(r api.Replica) string { return fmt.Sprint(r.Store, r.Refs, r.Gen) }

// model: what a replica shows, its phase, and what it holds apart, each by itself.
type model struct {
	is    api.Replica
	phase int
	held  api.Push
}

// step does one call with both: what it answered, the errno that the model asks for, and which call it was.
func (m *model) step(t *testing.T, d *draw, r api.Replica) (api.Replica, api.Errno, api.Errno, string) {
	want := api.ErrState
	call := m.phase
	if d.below(6) == 0 {
		call = d.below(4)
	}
	switch call {
	case 0:
		p := d.push(m.is)
		got, e := Prepare(r, p)
		if m.phase == 0 {
			want = push.Check(p)
		}
		if want == api.OK {
			m.phase, m.held = 1, p
		}
		return got, e, want, "Prepare"
	case 1:
		said := ""
		if m.phase == 1 {
			m.phase, want = 2, api.OK
			said, _ = vote.Of(m.is, m.held)
		}
		got, s, e := Vote(r)
		if s != said {
			t.Fatalf("Vote of %v says %q, must be %q", r, s, said)
		}
		return got, e, want, "Vote"
	case 2:
		commit := d.below(4) > 0
		got, e := Finish(r, commit)
		if m.phase == 2 {
			want = m.finish(commit)
		}
		return got, e, want, "Finish"
	}
	got, e := Crash(r)
	m.phase, m.held = 0, api.Push{}
	return got, e, api.OK, "Crash"
}

func (m *model) finish(commit bool) api.Errno {
	if commit {
		objects, names, e := push.Try(m.is, m.held)
		if e == api.OK && m.is.Gen == 999 {
			e = api.ErrMany
		}
		if e != api.OK {
			return e
		}
		m.is = api.Replica{Store: objects, Refs: names, Gen: m.is.Gen + 1}
	}
	m.phase, m.held = 0, api.Push{}
	return api.OK
}

// TestH3WhatIsHeldApartIsSeenByNobody: only a commit changes what is shown, whatever is done in whatever order.
func TestH3WhatIsHeldApartIsSeenByNobody(t *testing.T) {
	d := new(draw)
	commits, crashes := 0, 0
	for range 400 {
		r := api.Replica{Gen: []int{0, 996}[d.below(2)]}
		m := &model{is: r}
		for range 60 {
			before := r
			got, e, want, call := m.step(t, d, r)
			if e != want || e != api.OK && !nothing(got) {
				t.Fatalf("%s of %v is %v %d, must be %d", call, r, got, e, want)
			}
			if e != api.OK {
				continue
			}
			r = got
			should := m.is
			should.Phase, should.Pending = m.phase, m.held
			if text(r) != text(should) || Check(r) != api.OK {
				t.Fatalf("%s of %v is %v, must be %v", call, before, r, should)
			}
			if r.Gen > before.Gen {
				commits++
			} else if shown(r) != shown(before) {
				t.Fatalf("%s of %v shows %s", call, before, shown(r))
			}
			if call == "Crash" && before.Phase != api.Idle {
				crashes++
			}
		}
	}
	if commits < 300 || crashes < 300 {
		t.Errorf("only %d commits and %d crashes: the draw does not try the promise", commits, crashes)
	}
}

// TestH3WhoCrashesHasWhatItHad, and may go on from there.
func TestH3WhoCrashesHasWhatItHad(t *testing.T) {
	prepared, _ := Prepare(young(4), next())
	voted, _, _ := Vote(prepared)
	for _, r := range []api.Replica{prepared, voted} {
		if shown(r) != shown(young(4)) {
			t.Errorf("what is held apart is seen: %v", r)
		}
		crashed, e := Crash(r)
		expectIs(t, "Crash", crashed, e, young(4), api.OK)
		again, _ := Prepare(crashed, next())
		again, said, _ := Vote(again)
		done, e := Finish(again, true)
		expectIs(t, "Finish", done, e, grown(5), api.OK)
		if said != "yes 4 b 0 3;main 3 6;" {
			t.Errorf("it said %q", said)
		}
	}
}

// rooms of all lists in a value, spare room too: where each begins and ends.
func rooms(v reflect.Value) [][2]uintptr {
	var l [][2]uintptr
	switch v.Kind() {
	case reflect.Struct:
		for i := range v.NumField() {
			l = append(l, rooms(v.Field(i))...)
		}
	case reflect.Slice:
		if v.Cap() > 0 {
			l = append(l, [2]uintptr{v.Pointer(), v.Pointer() + uintptr(v.Cap())*v.Type().Elem().Size()})
		}
		for i := range v.Len() {
			l = append(l, rooms(v.Index(i))...)
		}
	}
	return l
}

// expectOwn: no list of what came shares room with another one of it, or with one of what was handed in.
func expectOwn(t *testing.T, call string, came api.Replica, handed ...any) {
	t.Helper()
	own := rooms(reflect.ValueOf(came))
	var others [][2]uintptr
	for _, h := range handed {
		others = append(others, rooms(reflect.ValueOf(h))...)
	}
	for i, a := range own {
		for _, b := range append(own[:i:i], others...) {
			if a[0] < b[1] && b[0] < a[1] {
				t.Fatalf("%s: two lists share memory: %v, %v", call, came, handed)
			}
		}
	}
}

// crowded: a replica and a push, with spare room behind each list, which share as much as a caller may.
func crowded(phase int) (api.Replica, api.Push, func() string) {
	links := []int{1, 2, 4, 77}
	objects := append(make([]api.Object, 0, 20), history()...)
	objects[1].Links, objects[4].Links = links[:1], links[:3]
	copy(objects[8:12], []api.Object{obj(91, 1, "spare"), obj(92, 1, "spare"), obj(93, 1, "spare"), obj(94, 1, "spare")})
	names := append(make([]api.Ref, 0, 4), ref("main", 3))
	names[:2][1] = ref("spare", 9)
	us := append(make([]api.Update, 0, 4), up("main", 3, 6), up("b", 0, 3))
	us[:3][2] = up("spare", 9, 9)
	p := api.Push{Objects: objects[3:6], Updates: us}
	r := api.Replica{Store: objects[:3], Refs: names, Gen: 4, Phase: phase}
	if phase != api.Idle {
		r.Pending = p
	}
	return r, p, func() string { return fmt.Sprint(objects[:12], names[:2], us[:3], links, r.Gen, r.Phase, r.Pending) }
}

func TestP2(t *testing.T) {
	for _, c := range []struct {
		call  string
		phase int
		do    func(r api.Replica, p api.Push) (api.Replica, api.Errno)
	}{
		{"Prepare", api.Idle, Prepare},
		{"Vote", api.Prepared, func(r api.Replica, p api.Push) (api.Replica, api.Errno) {
			voted, _, e := Vote(r)
			return voted, e
		}},
		{"Finish by a commit", api.Voted, func(r api.Replica, p api.Push) (api.Replica, api.Errno) { return Finish(r, true) }},
		{"Finish", api.Voted, func(r api.Replica, p api.Push) (api.Replica, api.Errno) { return Finish(r, false) }},
		{"Crash of an Idle one", api.Idle, func(r api.Replica, p api.Push) (api.Replica, api.Errno) { return Crash(r) }},
		{"Crash of a Voted one", api.Voted, func(r api.Replica, p api.Push) (api.Replica, api.Errno) { return Crash(r) }},
	} {
		r, p, all := crowded(c.phase)
		was := all()
		got, e := c.do(r, p)
		if e != api.OK || Check(r) != api.OK {
			t.Fatalf("%s has errno %d", c.call, e)
		}
		if all() != was {
			t.Errorf("%s: it was %s, and is %s", c.call, was, all())
		}
		expectOwn(t, c.call, got, r, p)
		// It answers the same again, whatever became of what it answered.
		first := text(got)
		clear(got.Store)
		clear(got.Refs)
		clear(got.Pending.Objects)
		clear(got.Pending.Updates)
		if again, _ := c.do(r, p); text(again) != first {
			t.Errorf("%s: it was %s, and then %s", c.call, first, text(again))
		}
	}
}
