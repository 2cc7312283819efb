package update

import (
	"fmt"
	"math"
	"slices"
	"strings"
	"testing"

	"forestay/api"
	"forestay/refs"
)

func obj(id, kind int, text string, links ...int) api.Object {
	return api.Object{Id: id, Kind: kind, Links: links, Text: text}
}

func ref(name string, id int) api.Ref { return api.Ref{Name: name, Id: id} }

func up(name string, was, now int) api.Update { return api.Update{Name: name, Old: was, New: now} }

func ups(l ...api.Update) []api.Update { return l }

// history: commits 3, 6 and 7 from it, 8 from both, and 99 by itself; 1 and 4 are blobs, 2 and 5 trees.
func history() []api.Object {
	return []api.Object{obj(1, api.Blob, "one"), obj(2, api.Tree, "", 1), obj(3, api.Commit, "c1", 2), obj(4, api.Blob, "two"), obj(5, api.Tree, "", 1, 2, 4), obj(6, api.Commit, "c2", 5, 3), obj(7, api.Commit, "c3", 2, 3), obj(8, api.Commit, "c4", 5, 6, 7), obj(99, api.Commit, "alone", 2)}
}

func names() []api.Ref { return []api.Ref{ref("dev", 7), ref("main", 3), ref("x/y", 6)} }

type updatesCase struct {
	name string
	l    []api.Update
	want api.Errno
}

var goodUpdates = []updatesCase{
	{"a new name", ups(up("a", 0, 3)), api.OK},
	{"a name that goes", ups(up("a", 3, 0)), api.OK},
	{"a name that goes on", ups(up("a", 3, 6)), api.OK},
	{"a name that stays", ups(up("a", 3, 3)), api.OK},
	{"the least and the greatest", ups(up("a", 1, 99), up("b", 99, 1)), api.OK},
	{"0 and the greatest", ups(up("a", 0, 99), up("b", 99, 0)), api.OK},
	{"as many as may be, falling", ups(up("d", 0, 1), up("c", 0, 1), up("b", 0, 1), up("a", 0, 1)), api.OK},
	{"a name and a place", ups(up("a", 0, 1), up("a/b", 0, 1)), api.OK},
	{"the longest name", ups(up("abcdefghijkl", 0, 1)), api.OK},
}

var badUpdates = []updatesCase{
	{"none", nil, api.ErrNone},
	{"an empty list", []api.Update{}, api.ErrNone},
	{"one too many", ups(up("a", 0, 1), up("b", 0, 1), up("c", 0, 1), up("d", 0, 1), up("e", 0, 1)), api.ErrMany},
	{"too many ahead of a name", make([]api.Update, 5), api.ErrMany},
	{"far too many", make([]api.Update, 100000), api.ErrMany},
	{"an update without anything", make([]api.Update, 1), api.ErrForm},
	{"an empty name", ups(up("", 0, 1)), api.ErrForm},
	{"a great letter", ups(up("Main", 3, 6)), api.ErrForm},
	{"a slash at the end", ups(up("a/", 3, 6)), api.ErrForm},
	{"a blank in a name", ups(up("a 1", 3, 6)), api.ErrForm},
	{"a semicolon in a name", ups(up("a;b", 3, 6)), api.ErrForm},
	{"a name that is too long", ups(up("abcdefghijklm", 0, 1)), api.ErrMany},
	{"Old below 0", ups(up("a", -1, 3)), api.ErrRange},
	{"New below 0", ups(up("a", 3, -1)), api.ErrRange},
	{"Old too great", ups(up("a", 100, 3)), api.ErrRange},
	{"New too great", ups(up("a", 3, 100)), api.ErrRange},
	{"Old the least of all", ups(up("a", math.MinInt, 3)), api.ErrRange},
	{"New the greatest of all", ups(up("a", 3, math.MaxInt)), api.ErrRange},
	{"Old below 0, New 0", ups(up("a", -1, 0)), api.ErrRange},
	{"Old 0, New too great", ups(up("a", 0, 100)), api.ErrRange},
	{"two that are 0 together", ups(up("a", -1, 1), up("b", 1, -1)), api.ErrRange},
	{"both 0", ups(up("a", 0, 0)), api.ErrForm},
	{"the last one both 0", ups(up("a", 0, 1), up("b", 1, 0), up("c", 0, 0)), api.ErrForm},
	{"a name twice", ups(up("a", 3, 6), up("a", 6, 8)), api.ErrTwice},
	{"an update twice", ups(up("a", 3, 6), up("a", 3, 6)), api.ErrTwice},
	{"the first and the last of a name", ups(up("a", 3, 6), up("b", 3, 6), up("c", 3, 6), up("a", 6, 8)), api.ErrTwice},
	{"of one update the name ahead of the range", ups(up("A", -1, 3)), api.ErrForm},
	{"of one update a name too long ahead of the range", ups(up("abcdefghijklm", -1, 3)), api.ErrMany},
	{"of one update the name ahead of both 0", ups(up("abcdefghijklm", 0, 0)), api.ErrMany},
	{"of one update the range ahead of the name twice", ups(up("a", 3, 6), up("a", 3, 100)), api.ErrRange},
	{"of one update both 0 ahead of the name twice", ups(up("a", 3, 6), up("a", 0, 0)), api.ErrForm},
	{"an earlier range ahead of a later name", ups(up("a", 3, 100), up("A", 3, 6)), api.ErrRange},
	{"an earlier form ahead of a later range", ups(up("a", 0, 0), up("b", 3, 100)), api.ErrForm},
	{"an earlier name twice ahead of a later name", ups(up("a", 3, 6), up("a", 3, 6), up("A", 3, 6)), api.ErrTwice},
	{"an earlier name twice ahead of a later range", ups(up("a", 3, 6), up("a", 3, 6), up("b", -1, 6)), api.ErrTwice},
	{"a later name ahead of a still later name twice", ups(up("a", 3, 6), up("A", 3, 6), up("a", 3, 6)), api.ErrForm},
}

func TestE1Check(t *testing.T) {
	for _, c := range slices.Concat(goodUpdates, badUpdates) {
		if e := Check(c.l); e != c.want {
			t.Errorf("%s: Check is %d, must be %d", c.name, e, c.want)
		}
	}
}

func TestE1CheckEveryNumber(t *testing.T) {
	for n := -2; n <= 102; n++ {
		want := api.OK
		if n < 0 || n > 99 {
			want = api.ErrRange
		}
		if e := Check(ups(up("a", n, 5))); e != want {
			t.Errorf("Check of Old %d is %d, must be %d", n, e, want)
		}
		if e := Check(ups(up("a", 5, n))); e != want {
			t.Errorf("Check of New %d is %d, must be %d", n, e, want)
		}
	}
}

func expectApplied(t *testing.T, l []api.Ref, us []api.Update, force bool, want ...api.Ref) {
	t.Helper()
	if got, e := Apply(l, history(), us, force); !slices.Equal(got, want) || e != api.OK {
		t.Errorf("Apply of %v to %v, force %v, is %v %d, must be %v", us, l, force, got, e, want)
	}
}

func expectRefused(t *testing.T, l []api.Ref, us []api.Update, force bool, want api.Errno) {
	t.Helper()
	if got, e := Apply(l, history(), us, force); len(got) != 0 || e != want {
		t.Errorf("Apply of %v to %v, force %v, is %v %d, must be nothing, and %d", us, l, force, got, e, want)
	}
}

// TestE1Apply: what may be done without force is the same with it.
func TestE1Apply(t *testing.T) {
	for _, c := range []struct {
		us   []api.Update
		want []api.Ref
	}{
		{ups(up("main", 3, 6)), []api.Ref{ref("dev", 7), ref("main", 6), ref("x/y", 6)}},
		{ups(up("main", 3, 8)), []api.Ref{ref("dev", 7), ref("main", 8), ref("x/y", 6)}},
		{ups(up("main", 3, 3)), names()},
		{ups(up("main", 3, 0)), []api.Ref{ref("dev", 7), ref("x/y", 6)}},
		{ups(up("dev", 7, 0)), []api.Ref{ref("main", 3), ref("x/y", 6)}},
		{ups(up("x/y", 6, 0)), []api.Ref{ref("dev", 7), ref("main", 3)}},
		{ups(up("a", 0, 99)), []api.Ref{ref("a", 99), ref("dev", 7), ref("main", 3), ref("x/y", 6)}},
		{ups(up("n", 0, 3)), []api.Ref{ref("dev", 7), ref("main", 3), ref("n", 3), ref("x/y", 6)}},
		{ups(up("z", 0, 8)), []api.Ref{ref("dev", 7), ref("main", 3), ref("x/y", 6), ref("z", 8)}},
		{ups(up("mai", 0, 8), up("maina", 0, 7)), []api.Ref{ref("dev", 7), ref("mai", 8), ref("main", 3), ref("maina", 7), ref("x/y", 6)}},
		{ups(up("x-y", 0, 8), up("x0", 0, 7)), []api.Ref{ref("dev", 7), ref("main", 3), ref("x-y", 8), ref("x/y", 6), ref("x0", 7)}},
		{ups(up("z", 0, 3), up("x/y", 6, 0), up("dev", 7, 8), up("main", 3, 6)), []api.Ref{ref("dev", 8), ref("main", 6), ref("z", 3)}},
		{ups(up("x/y", 6, 0), up("dev", 7, 0), up("main", 3, 0)), nil},
	} {
		expectApplied(t, names(), c.us, false, c.want...)
		expectApplied(t, names(), c.us, true, c.want...)
	}
	expectApplied(t, nil, ups(up("b", 0, 3), up("a", 0, 99)), false, ref("a", 99), ref("b", 3))
	expectApplied(t, []api.Ref{}, ups(up("b", 0, 3)), true, ref("b", 3))
}

// TestE1Force: only that Old must be Behind New is given up by it.
func TestE1Force(t *testing.T) {
	for _, c := range []struct {
		us   []api.Update
		want []api.Ref
	}{
		{ups(up("x/y", 6, 3)), []api.Ref{ref("dev", 7), ref("main", 3), ref("x/y", 3)}},
		{ups(up("dev", 7, 6)), []api.Ref{ref("dev", 6), ref("main", 3), ref("x/y", 6)}},
		{ups(up("main", 3, 99)), []api.Ref{ref("dev", 7), ref("main", 99), ref("x/y", 6)}},
		{ups(up("main", 3, 6), up("dev", 7, 3)), []api.Ref{ref("dev", 3), ref("main", 6), ref("x/y", 6)}},
	} {
		expectRefused(t, names(), c.us, false, api.ErrState)
		expectApplied(t, names(), c.us, true, c.want...)
	}
}

// TestE1ApplyRefused: with force or without.
func TestE1ApplyRefused(t *testing.T) {
	for _, c := range []updatesCase{
		{"of another Old", ups(up("main", 6, 8)), api.ErrState},
		{"New as it is, of another Old", ups(up("main", 6, 3)), api.ErrState},
		{"a new name that is there", ups(up("main", 0, 8)), api.ErrState},
		{"a new name that is there, as it is", ups(up("main", 0, 3)), api.ErrState},
		{"Old of a name that is not there", ups(up("new", 3, 8)), api.ErrState},
		{"one goes that is not there", ups(up("new", 3, 0)), api.ErrState},
		{"one goes of another Old", ups(up("main", 7, 0)), api.ErrState},
		{"a beginning of a name", ups(up("mai", 3, 6)), api.ErrState},
		{"a place", ups(up("x", 6, 8)), api.ErrState},
		{"New is not there", ups(up("main", 3, 9)), api.ErrNone},
		{"New of a new name is not there", ups(up("new", 0, 98)), api.ErrNone},
		{"New is a blob", ups(up("main", 3, 1)), api.ErrKind},
		{"New is a tree", ups(up("main", 3, 5)), api.ErrKind},
		{"New of a new name is a blob", ups(up("new", 0, 4)), api.ErrKind},
		{"of one update Old ahead of New that is not there", ups(up("main", 6, 9)), api.ErrState},
		{"of one update Old ahead of New's kind", ups(up("main", 0, 1)), api.ErrState},
		{"an earlier New ahead of a later Old", ups(up("main", 3, 9), up("dev", 3, 8)), api.ErrNone},
		{"an earlier Old ahead of a later New", ups(up("dev", 3, 8), up("main", 3, 9)), api.ErrState},
		{"an earlier kind ahead of a later New", ups(up("dev", 7, 2), up("main", 3, 9)), api.ErrKind},
		{"a later Old", ups(up("main", 3, 6), up("dev", 3, 6)), api.ErrState},
		{"the last New", ups(up("main", 3, 6), up("dev", 7, 8), up("x/y", 6, 0), up("a", 0, 9)), api.ErrNone},
		{"a name that becomes a place", ups(up("x", 0, 3)), api.ErrTwice},
		{"a name in a name", ups(up("x/y/z", 0, 3)), api.ErrTwice},
		{"two new names, one in the other", ups(up("a/b", 0, 3), up("a", 0, 3)), api.ErrTwice},
		{"a later Old ahead of a place", ups(up("x", 0, 3), up("dev", 3, 8)), api.ErrState},
		{"a later New ahead of a place", ups(up("x", 0, 3), up("dev", 7, 9)), api.ErrNone},
	} {
		for _, force := range []bool{false, true} {
			t.Log(c.name)
			expectRefused(t, names(), c.l, force, c.want)
		}
	}
}

// TestE1BehindAheadOfALaterUpdate: of one update the kind is ahead of what is behind, and that is ahead of the next update.
func TestE1BehindAheadOfALaterUpdate(t *testing.T) {
	expectRefused(t, names(), ups(up("x/y", 6, 3), up("main", 3, 9)), false, api.ErrState)
	expectRefused(t, names(), ups(up("x/y", 6, 3), up("main", 3, 9)), true, api.ErrNone)
	expectRefused(t, names(), ups(up("x/y", 6, 1), up("main", 3, 9)), false, api.ErrKind)
	expectRefused(t, names(), ups(up("main", 3, 1), up("x/y", 6, 3)), false, api.ErrKind)
	expectRefused(t, names(), ups(up("x/y", 6, 3), up("x", 0, 3)), false, api.ErrState)
	expectRefused(t, names(), ups(up("x/y", 6, 3), up("x", 0, 3)), true, api.ErrTwice)
}

// TestE1WhatComesOfAll: only what comes of all updates is looked at, whatever it is between them.
func TestE1WhatComesOfAll(t *testing.T) {
	for _, us := range [][]api.Update{
		ups(up("x", 0, 3), up("x/y", 6, 0)),
		ups(up("x/y", 6, 0), up("x", 0, 3)),
	} {
		expectApplied(t, names(), us, false, ref("dev", 7), ref("main", 3), ref("x", 3))
	}
	var eight []api.Ref
	for _, name := range []string{"a", "b", "c", "d", "e", "f", "g", "h"} {
		eight = append(eight, ref(name, 3))
	}
	expectApplied(t, eight[:7], ups(up("z", 0, 3)), false, append(slices.Clone(eight[:7]), ref("z", 3))...)
	expectRefused(t, eight, ups(up("z", 0, 3)), false, api.ErrMany)
	expectRefused(t, eight, ups(up("z", 0, 3)), true, api.ErrMany)
	expectRefused(t, eight, ups(up("a/b", 0, 3)), false, api.ErrMany)
	expectRefused(t, eight, ups(up("z", 0, 3), up("y", 0, 3), up("a", 3, 0)), false, api.ErrMany)
	for _, us := range [][]api.Update{
		ups(up("z", 0, 3), up("a", 3, 0)),
		ups(up("a", 3, 0), up("z", 0, 3)),
	} {
		expectApplied(t, eight, us, false, append(slices.Clone(eight[1:]), ref("z", 3))...)
	}
}

func TestE1ApplyOfWrongUpdates(t *testing.T) {
	for _, c := range badUpdates {
		t.Log(c.name)
		expectRefused(t, names(), c.l, false, c.want)
		expectRefused(t, nil, c.l, true, c.want)
	}
	expectRefused(t, names(), ups(up("main", 6, 9), up("A", 0, 3)), false, api.ErrForm)
	expectRefused(t, names(), ups(up("main", 6, 9), up("main", 0, 3)), false, api.ErrTwice)
}

// TestE1ApplyToWrongRefs: what is wrong with the refs or the store is told ahead of what is wrong with the updates.
func TestE1ApplyToWrongRefs(t *testing.T) {
	for _, us := range [][]api.Update{nil, ups(up("main", 3, 6)), ups(up("main", 6, 9)), make([]api.Update, 5), ups(up("A", 0, 0))} {
		expectRefused(t, make([]api.Ref, 9), us, true, api.ErrMany)
		expectRefused(t, []api.Ref{ref("A", 3)}, us, true, api.ErrForm)
		expectRefused(t, []api.Ref{ref("main", 3), ref("a", 3)}, us, false, api.ErrState)
		expectRefused(t, []api.Ref{ref("main", 9)}, us, false, api.ErrNone)
		expectRefused(t, []api.Ref{ref("main", 2)}, us, false, api.ErrKind)
		expectRefused(t, []api.Ref{ref("a", 3), ref("a/b", 3)}, us, false, api.ErrTwice)
		for _, c := range []struct {
			objects []api.Object
			want    api.Errno
		}{
			{history()[1:], api.ErrNone},
			{history()[:6], api.ErrNone},
			{make([]api.Object, 41), api.ErrMany},
			{make([]api.Object, 1), api.ErrRange},
			{append(history(), history()[0]), api.ErrState},
		} {
			if got, e := Apply(names(), c.objects, us, true); len(got) != 0 || e != c.want {
				t.Errorf("Apply of %v with %v is %v %d, must be nothing, and %d", us, c.objects, got, e, c.want)
			}
		}
	}
}

// TestE1WrongRefsAreNotMended: an update that takes away what is wrong comes too late.
func TestE1WrongRefsAreNotMended(t *testing.T) {
	expectRefused(t, []api.Ref{ref("a", 3), ref("a/b", 3)}, ups(up("a", 3, 0)), true, api.ErrTwice)
	expectRefused(t, []api.Ref{ref("a", 9)}, ups(up("a", 9, 0)), true, api.ErrNone)
}

func TestE2Text(t *testing.T) {
	for _, c := range []struct {
		l    []api.Update
		want string
	}{
		{ups(up("main", 3, 6)), "main 3 6;"},
		{ups(up("main", 3, 0)), "main 3 0;"},
		{ups(up("main", 0, 99)), "main 0 99;"},
		{ups(up("a/b-c", 10, 20)), "a/b-c 10 20;"},
		{ups(up("b", 1, 2), up("a", 3, 4)), "a 3 4;b 1 2;"},
		{ups(up("d", 1, 0), up("c", 0, 2), up("b", 3, 4), up("a", 99, 99)), "a 99 99;b 3 4;c 0 2;d 1 0;"},
		{ups(up("ab", 1, 2), up("a", 3, 4), up("abc", 5, 6)), "a 3 4;ab 1 2;abc 5 6;"},
		{ups(up("a", 1, 2), up("9", 3, 4), up("-", 5, 6)), "- 5 6;9 3 4;a 1 2;"},
		{ups(up("a0", 1, 2), up("a/b", 3, 4), up("a-b", 5, 6), up("a", 7, 8)), "a 7 8;a-b 5 6;a/b 3 4;a0 1 2;"},
	} {
		if s, e := Text(c.l); s != c.want || e != api.OK {
			t.Errorf("Text of %v is %q %d, must be %q", c.l, s, e, c.want)
		}
	}
}

func TestE2TextErrors(t *testing.T) {
	for _, c := range goodUpdates {
		if s, e := Text(c.l); s == "" || e != api.OK {
			t.Errorf("%s: Text is %q %d", c.name, s, e)
		}
	}
	for _, c := range badUpdates {
		if s, e := Text(c.l); s != "" || e != c.want {
			t.Errorf("%s: Text is %q %d, must be empty, and %d", c.name, s, e, c.want)
		}
	}
}

// orders of updates, all of them.
func orders(l []api.Update) [][]api.Update {
	if len(l) == 0 {
		return [][]api.Update{nil}
	}
	var all [][]api.Update
	for i, u := range l {
		rest := slices.Concat(l[:i], l[i+1:])
		for _, o := range orders(rest) {
			all = append(all, append(ups(u), o...))
		}
	}
	return all
}

// draw numbers, the same each time.
type draw uint64

func (d *draw) below(n int) int {
	*d = *d*6364136223846793005 + 1442695040888963407
	return int(uint64(*d) >> 33 % uint64(n))
}

func (d *draw) commit() int { return []int{3, 6, 7, 8, 99}[d.below(5)] }

// refs that Check lets pass.
func (d *draw) refs() []api.Ref {
	for {
		var l []api.Ref
		for _, name := range []string{"a", "a-b", "a/b", "a/b/c", "ab", "b", "b/a", "c"} {
			if d.below(3) == 0 {
				l = append(l, ref(name, d.commit()))
			}
		}
		if refs.Check(l, history()) == api.OK {
			return l
		}
	}
}

// updates of a few names, most of them with the Old that is there.
func (d *draw) updates(l []api.Ref) []api.Update {
	var us []api.Update
	left := []string{"a", "a-b", "a/b", "a/b/c", "ab", "b", "b/a", "c"}
	for range 1 + d.below(4) {
		at := d.below(len(left))
		u := up(left[at], 0, 0)
		left = slices.Delete(left, at, at+1)
		u.Old, _ = refs.Get(l, u.Name)
		if d.below(20) == 0 {
			u.Old = d.below(10)
		}
		switch d.below(12) {
		case 0:
			u.New = d.below(10)
		case 1, 2, 3, 4:
			u.New = 0
		default:
			u.New = d.commit()
		}
		if u.Old == 0 && u.New == 0 {
			u.New = d.commit()
		}
		us = append(us, u)
	}
	return us
}

// outcome of updates, worked out from a table of names, by itself.
func outcome(l []api.Ref, us []api.Update) []api.Ref {
	of := map[string]int{}
	for _, r := range l {
		of[r.Name] = r.Id
	}
	for _, u := range us {
		of[u.Name] = u.New
	}
	var got []api.Ref
	for name, id := range of {
		if id != 0 {
			got = append(got, ref(name, id))
		}
	}
	slices.SortFunc(got, func(a, b api.Ref) int { return strings.Compare(a.Name, b.Name) })
	return got
}

func TestE3OrderDoesNotMatter(t *testing.T) {
	d := new(draw)
	told := map[api.Errno]int{}
	for range 1500 {
		l := d.refs()
		us := d.updates(l)
		force := d.below(2) == 0
		_, first := Apply(l, history(), us, force)
		text, _ := Text(us)
		told[first]++
		for _, o := range orders(us) {
			got, e := Apply(l, history(), o, force)
			if (e == api.OK) != (first == api.OK) || e != api.OK && len(got) > 0 {
				t.Fatalf("Apply of %v to %v is %v %d, in another order errno %d", o, l, got, e, first)
			}
			if e == api.OK && (!slices.Equal(got, outcome(l, us)) || refs.Check(got, history()) != api.OK) {
				t.Fatalf("Apply of %v to %v is %v, must be %v", o, l, got, outcome(l, us))
			}
			if s, e := Text(o); s != text || e != api.OK {
				t.Fatalf("Text of %v is %q %d, in another order %q", o, s, e, text)
			}
		}
	}
	for _, e := range []api.Errno{api.OK, api.ErrState, api.ErrNone, api.ErrTwice, api.ErrKind} {
		if told[e] < 20 {
			t.Errorf("only %v were told: the draw does not try the promise", told)
		}
	}
}

// TestE3OneText: updates that say something else have another text.
func TestE3OneText(t *testing.T) {
	said := map[string]string{}
	for _, name := range []string{"a", "a-1", "a/1", "a1", "1"} {
		for was := range 13 {
			for now := range 13 {
				for _, more := range [][]api.Update{nil, ups(up("b", was, now+1)), ups(up("0", now+1, was))} {
					us := append(ups(up(name, was, now)), more...)
					s, e := Text(us)
					if e != api.OK {
						continue
					}
					if other, ok := said[s]; ok {
						t.Fatalf("%q is the text of %v and of %s", s, us, other)
					}
					said[s] = fmt.Sprint(us)
				}
			}
		}
	}
}

// TestP2ArgumentsAreOnlyRead: and the spare room behind them.
func TestP2ArgumentsAreOnlyRead(t *testing.T) {
	l := append(names(), ref("behind", 1), ref("them", 2))
	objects := append(history(), obj(1, 1, ""), obj(2, 2, "", 1))
	us := ups(up("z", 0, 3), up("x/y", 6, 0), up("main", 3, 6), up("a", 0, 99), up("b", 1, 1), up("c", 1, 1))
	was := fmt.Sprint(l, objects, us)
	Check(us[:4])
	Text(us[:4])
	Text(us[:3])
	for n := range 5 {
		for _, force := range []bool{false, true} {
			Apply(l[:3], objects[:9], us[:n], force)
			Apply(l[:0], objects[:9], us[:n], force)
		}
	}
	if is := fmt.Sprint(l, objects, us); is != was {
		t.Errorf("they became\n%s, were\n%s", is, was)
	}
}

func TestP2AnswerIsTheCallers(t *testing.T) {
	l := names()
	for _, us := range [][]api.Update{ups(up("main", 3, 3)), ups(up("main", 3, 6)), ups(up("z", 0, 3)), ups(up("x/y", 6, 0))} {
		got, _ := Apply(l, history(), us, false)
		want := fmt.Sprint(got)
		again, _ := Apply(l, history(), us, false)
		for i := range got {
			got[i] = ref("mine", 50)
		}
		_ = append(got[:0], make([]api.Ref, cap(got))...)
		if fmt.Sprint(l) != fmt.Sprint(names()) || fmt.Sprint(again) != want {
			t.Errorf("a change of an answer changed the refs to %v, another answer to %v", l, again)
		}
	}
}
