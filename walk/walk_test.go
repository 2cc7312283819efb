package walk

import (
	"fmt"
	"math"
	"slices"
	"testing"

	"forestay/api"
	"forestay/store"
)

func blob(id int) api.Object { return api.Object{Id: id, Kind: api.Blob, Text: fmt.Sprint("b", id)} }

func tree(id int, links ...int) api.Object { return api.Object{Id: id, Kind: api.Tree, Links: links} }

func commit(id int, links ...int) api.Object {
	return api.Object{Id: id, Kind: api.Commit, Links: links, Text: "c"}
}

// history: two ways from commit 12 on, which meet in commit 40; tree 50 and commit 99 have nothing of it.
func history() []api.Object {
	return []api.Object{blob(3), tree(5), tree(10, 3, 5), commit(12, 10), blob(20), tree(21, 10, 20), commit(30, 21, 12), commit(31, 10, 12), commit(40, 21, 30, 31), tree(50, 20), commit(99, 50)}
}

// chain of commits, as long as a store lets it be, each with the one ahead of it as its parent.
func chain() []api.Object {
	l := []api.Object{tree(1), commit(2, 1)}
	for id := 3; id <= api.MaxObject; id++ {
		l = append(l, commit(id, 1, id-1))
	}
	return l
}

// text of objects, in which an empty list and none are the same.
func text(l ...api.Object) string { return fmt.Sprint(l) }

// pick objects of a store by their ids.
func pick(l []api.Object, ids []int) []api.Object {
	var got []api.Object
	for _, o := range l {
		if slices.Contains(ids, o.Id) {
			got = append(got, o)
		}
	}
	return got
}

func expectReached(t *testing.T, l []api.Object, tips, want []int) {
	t.Helper()
	if ids, e := Reach(l, tips); !slices.Equal(ids, want) || e != api.OK {
		t.Errorf("Reach of %v is %v %d, must be %v", tips, ids, e, want)
	}
	if part, e := Part(l, tips); text(part...) != text(pick(l, want)...) || e != api.OK {
		t.Errorf("Part of %v is %v %d, must be %v", tips, part, e, pick(l, want))
	}
}

func TestC1Reach(t *testing.T) {
	for _, c := range []struct{ tips, want []int }{
		{nil, nil},
		{[]int{}, nil},
		{[]int{3}, []int{3}},
		{[]int{5}, []int{5}},
		{[]int{10}, []int{3, 5, 10}},
		{[]int{12}, []int{3, 5, 10, 12}},
		{[]int{21}, []int{3, 5, 10, 20, 21}},
		{[]int{30}, []int{3, 5, 10, 12, 20, 21, 30}},
		{[]int{31}, []int{3, 5, 10, 12, 31}},
		{[]int{40}, []int{3, 5, 10, 12, 20, 21, 30, 31, 40}},
		{[]int{99}, []int{20, 50, 99}},
		{[]int{5, 3}, []int{3, 5}},
		{[]int{99, 12}, []int{3, 5, 10, 12, 20, 50, 99}},
		{[]int{3, 10, 3, 10}, []int{3, 5, 10}},
		{[]int{99, 40}, []int{3, 5, 10, 12, 20, 21, 30, 31, 40, 50, 99}},
	} {
		expectReached(t, history(), c.tips, c.want)
	}
	expectReached(t, nil, nil, nil)
	expectReached(t, []api.Object{blob(1)}, []int{1, 1, 1}, []int{1})
}

func TestC1ReachAllOfAChain(t *testing.T) {
	var all []int
	for id := 1; id <= api.MaxObject; id++ {
		all = append(all, id)
	}
	for n := 2; n <= api.MaxObject; n++ {
		expectReached(t, chain(), []int{n}, all[:n])
	}
	expectReached(t, chain(), all, all)
}

// TestC1ManyTips: a store has a limit, tips have none.
func TestC1ManyTips(t *testing.T) {
	tips := make([]int, 300000)
	for i := range tips {
		tips[i] = []int{3, 12, 5}[i%3]
	}
	expectReached(t, history(), tips, []int{3, 5, 10, 12})
	tips[len(tips)-1] = 4
	expectNothing(t, "the last of many tips", history(), tips, api.ErrNone)
}

func expectNothing(t *testing.T, name string, l []api.Object, tips []int, want api.Errno) {
	t.Helper()
	if ids, e := Reach(l, tips); len(ids) != 0 || e != want {
		t.Errorf("%s: Reach is %v %d, must be nothing, and %d", name, ids, e, want)
	}
	if part, e := Part(l, tips); len(part) != 0 || e != want {
		t.Errorf("%s: Part is %v %d, must be nothing, and %d", name, part, e, want)
	}
}

var noIds = []int{0, -1, -3, 1, 4, 13, 98, 100, 103, 259, math.MinInt, math.MaxInt}

func TestC1TipsThatAreNotThere(t *testing.T) {
	for _, id := range noIds {
		expectNothing(t, fmt.Sprint("alone ", id), history(), []int{id}, api.ErrNone)
		expectNothing(t, fmt.Sprint("first ", id), history(), []int{id, 3, 40}, api.ErrNone)
		expectNothing(t, fmt.Sprint("last ", id), history(), []int{40, 3, id}, api.ErrNone)
		expectNothing(t, fmt.Sprint("of none ", id), nil, []int{id}, api.ErrNone)
	}
}

type storeCase struct {
	name string
	l    []api.Object
	want api.Errno
}

var badStores = []storeCase{
	{"too many", make([]api.Object, 41), api.ErrMany},
	{"an object out of range", []api.Object{{}}, api.ErrRange},
	{"an id as great as a number can be", []api.Object{{Id: math.MaxInt, Kind: api.Blob}}, api.ErrRange},
	{"ids that fall", []api.Object{commit(3, 2), tree(2)}, api.ErrState},
	{"a link to none", []api.Object{tree(1), commit(3, 1), tree(9, 5)}, api.ErrNone},
	{"a commit of a commit", []api.Object{tree(1), commit(2, 1), commit(3, 2)}, api.ErrKind},
	{"a commit without a tree", []api.Object{tree(1), commit(2, 1), commit(3)}, api.ErrForm},
}

func TestC1WhatIsNoStore(t *testing.T) {
	for _, c := range badStores {
		for _, tips := range [][]int{nil, {3}, {2, 3}, {77}, {-1}} {
			expectNothing(t, c.name, c.l, tips, c.want)
		}
		for _, id := range []int{2, 3, 77, -1} {
			expectBehind(t, c.l, id, 3, false, c.want)
			expectBehind(t, c.l, 3, id, false, c.want)
		}
	}
}

func expectBehind(t *testing.T, l []api.Object, old, newer int, want bool, errno api.Errno) {
	t.Helper()
	if ok, e := Behind(l, old, newer); ok != want || e != errno {
		t.Errorf("Behind of %d and %d in %v is %v %d, must be %v %d", old, newer, l, ok, e, want, errno)
	}
}

func TestC1Behind(t *testing.T) {
	behind := map[int][]int{12: {12}, 30: {12, 30}, 31: {12, 31}, 40: {12, 30, 31, 40}, 99: {99}}
	for newer, olds := range behind {
		for old := range behind {
			expectBehind(t, history(), old, newer, slices.Contains(olds, old), api.OK)
		}
	}
}

func TestC1BehindInAChain(t *testing.T) {
	for old := 2; old <= api.MaxObject; old++ {
		for newer := 2; newer <= api.MaxObject; newer++ {
			expectBehind(t, chain(), old, newer, old <= newer, api.OK)
		}
	}
}

func TestC1BehindEachParent(t *testing.T) {
	l := []api.Object{tree(1), commit(2, 1), commit(3, 1), commit(4, 1), commit(5, 1), commit(6, 1, 2, 3, 4)}
	for old := 2; old <= 6; old++ {
		expectBehind(t, l, old, 6, old != 5, api.OK)
	}
}

func TestC1BehindErrors(t *testing.T) {
	commits := []int{12, 30, 31, 40, 99}
	others := []int{3, 5, 10, 20, 21, 50}
	for _, no := range noIds {
		for _, id := range slices.Concat(commits, others, noIds) {
			// One that is not there tells, also where the one ahead of it is no commit.
			expectBehind(t, history(), no, id, false, api.ErrNone)
			expectBehind(t, history(), id, no, false, api.ErrNone)
		}
	}
	for _, other := range others {
		for _, id := range slices.Concat(commits, others) {
			expectBehind(t, history(), other, id, false, api.ErrKind)
			expectBehind(t, history(), id, other, false, api.ErrKind)
		}
	}
}

// draw numbers, the same each time.
type draw uint64

func (d *draw) below(n int) int {
	*d = *d*6364136223846793005 + 1442695040888963407
	return int(uint64(*d) >> 33 % uint64(n))
}

// some of l, as it lies, at the most as many as may be.
func (d *draw) some(l []int, most int) []int {
	var got []int
	for _, n := range l {
		if len(got) < most && d.below(4) == 0 {
			got = append(got, n)
		}
	}
	return got
}

// store drawn with gaps between its ids; commits come where there is a tree.
func (d *draw) store() []api.Object {
	var l []api.Object
	var commits, trees, below []int
	for id := 1 + d.below(3); len(l) < 14; id += 1 + d.below(6) {
		switch kind := d.below(5); {
		case kind == 0:
			l = append(l, blob(id))
			below = append(below, id)
		case kind < 3 || len(trees) == 0:
			l = append(l, tree(id, d.some(below, api.MaxLinks)...))
			below = append(below, id)
			trees = append(trees, id)
		default:
			l = append(l, commit(id, append([]int{trees[d.below(len(trees))]}, d.some(commits, 3)...)...))
			commits = append(commits, id)
		}
	}
	return l
}

// ways tells of each two places of a store whether steps go from one to another, by trying every place between.
func ways(l []api.Object, step func(o api.Object, id int) bool) [][]bool {
	w := make([][]bool, len(l))
	for i, from := range l {
		w[i] = make([]bool, len(l))
		for k, to := range l {
			w[i][k] = i == k || step(from, to.Id)
		}
	}
	for m := range l {
		for i := range l {
			for k := range l {
				w[i][k] = w[i][k] || w[i][m] && w[m][k]
			}
		}
	}
	return w
}

func TestC1DrawnReach(t *testing.T) {
	d := new(draw)
	for range 1000 {
		l := d.store()
		w := ways(l, func(o api.Object, id int) bool { return slices.Contains(o.Links, id) })
		var tips, want []int
		from := make([]bool, len(l))
		for range d.below(4) {
			i := d.below(len(l))
			from[i] = true
			tips = append(tips, l[i].Id)
		}
		for k, o := range l {
			for i := range l {
				if from[i] && w[i][k] {
					want = append(want, o.Id)
					break
				}
			}
		}
		expectReached(t, l, tips, want)
	}
}

func TestC1DrawnBehind(t *testing.T) {
	d := new(draw)
	told := map[bool]int{}
	for range 300 {
		l := d.store()
		w := ways(l, func(o api.Object, id int) bool {
			return o.Kind == api.Commit && slices.Contains(o.Links[1:], id)
		})
		for i, newer := range l {
			for k, old := range l {
				if old.Kind != api.Commit || newer.Kind != api.Commit {
					expectBehind(t, l, old.Id, newer.Id, false, api.ErrKind)
					continue
				}
				told[w[i][k]]++
				expectBehind(t, l, old.Id, newer.Id, w[i][k], api.OK)
			}
		}
	}
	if told[true] < 1000 || told[false] < 1000 {
		t.Errorf("only %v were told: the draw does not try the promise", told)
	}
}

func TestC2APartIsAStore(t *testing.T) {
	d := new(draw)
	for range 500 {
		l := d.store()
		tips := []int{l[d.below(len(l))].Id, l[d.below(len(l))].Id}
		part, e := Part(l, tips)
		if f := store.Check(part); e != api.OK || f != api.OK {
			t.Fatalf("Part of %v in %v is %v %d, and its Check %d", tips, l, part, e, f)
		}
		// What is reached in the part is all of it, and just what was reached in the whole.
		again, e := Part(part, tips)
		if text(again...) != text(part...) || e != api.OK {
			t.Fatalf("Part of %v in %v is %v %d", tips, part, again, e)
		}
	}
}

func TestC2WhatIsBehindIsReached(t *testing.T) {
	d := new(draw)
	for range 300 {
		l := d.store()
		for _, newer := range l {
			ids, _ := Reach(l, []int{newer.Id})
			for _, old := range l {
				if ok, _ := Behind(l, old.Id, newer.Id); ok && !slices.Contains(ids, old.Id) {
					t.Fatalf("%d is behind %d in %v, and is not in %v", old.Id, newer.Id, l, ids)
				}
			}
		}
	}
}

// crowded: a store with spare room behind each list, in which links of several objects lie in one array.
func crowded() ([]api.Object, []int) {
	room := []int{3, 5, 10, 12, 77}
	l := append(make([]api.Object, 0, 20), history()...)
	l[2].Links = room[:2]
	l[5].Links = room[:3]
	copy(l[len(l):cap(l)], history())
	return l, room
}

func TestP2ArgumentsAreOnlyRead(t *testing.T) {
	l, room := crowded()
	tips := append(make([]int, 0, 8), 40, 3, 40, 12)
	copy(tips[4:8], []int{61, 62, 63, 64})
	was := text(l[:cap(l)]...)
	_, e := Reach(l, tips)
	_, f := Part(l, tips)
	_, g := Behind(l, 12, 40)
	if e != api.OK || f != api.OK || g != api.OK {
		t.Fatalf("they have errno %d %d %d", e, f, g)
	}
	if is := text(l[:cap(l)]...); is != was {
		t.Errorf("the store became %s", is)
	}
	if fmt.Sprint(tips[:8], room) != "[40 3 40 12 61 62 63 64] [3 5 10 12 77]" {
		t.Errorf("tips and links became %v %v", tips[:8], room)
	}
}

func TestP2AnswersAreNew(t *testing.T) {
	l, room := crowded()
	tips := []int{3, 5, 10, 21, 40}
	want := text(pick(l, []int{3, 5, 10, 12, 21, 30, 31, 40})...)
	ids, _ := Reach(l, tips)
	part, _ := Part(l, tips)
	clear(l)
	clear(room)
	clear(tips)
	if text(part...) != want || fmt.Sprint(ids) != "[3 5 10 12 21 30 31 40]" {
		t.Errorf("later changes are seen: %v, %v", part, ids)
	}
	for i := range part {
		others := text(part[:i]...) + text(part[i+1:]...)
		grown := append(part[i].Links, 88)
		for k := range grown {
			grown[k] = 88
		}
		if text(part[:i]...)+text(part[i+1:]...) != others {
			t.Errorf("the links of %d are those of another one too", part[i].Id)
		}
	}
}
