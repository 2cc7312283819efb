package vote

import (
	"fmt"
	"math"
	"slices"
	"strings"
	"testing"

	"forestay/api"
)

func obj(id, kind int, text string, links ...int) api.Object {
	return api.Object{Id: id, Kind: kind, Links: links, Text: text}
}

func up(name string, was, now int) api.Update { return api.Update{Name: name, Old: was, New: now} }

func ups(l ...api.Update) []api.Update { return l }

// history: commit 3, then 6 and 7 from it.
func history() []api.Object {
	return []api.Object{obj(1, api.Blob, "one"), obj(2, api.Tree, "", 1), obj(3, api.Commit, "c1", 2), obj(4, api.Blob, "two"), obj(5, api.Tree, "", 1, 2, 4), obj(6, api.Commit, "c2", 5, 3), obj(7, api.Commit, "c3", 2, 3)}
}

// young: a replica with the first commit of history alone.
func young(gen int) api.Replica {
	return api.Replica{Store: history()[:3], Refs: []api.Ref{{Name: "main", Id: 3}}, Gen: gen}
}

// next: a push that a young replica can do.
func next() api.Push {
	return api.Push{Objects: history()[3:6], Updates: ups(up("main", 3, 6), up("b", 0, 3))}
}

func expectVote(t *testing.T, r api.Replica, p api.Push, want string) {
	t.Helper()
	if s, e := Of(r, p); s != want || e != api.OK {
		t.Errorf("the vote of %v for %v is %q %d, must be %q", r, p, s, e, want)
	}
}

func expectNoVote(t *testing.T, r api.Replica, p api.Push, want api.Errno) {
	t.Helper()
	if s, e := Of(r, p); s != "" || e != want {
		t.Errorf("the vote of %v for %v is %q %d, must be nothing, and %d", r, p, s, e, want)
	}
}

func TestG1Yes(t *testing.T) {
	expectVote(t, young(41), next(), "yes 41 b 0 3;main 3 6;")
	expectVote(t, young(41), api.Push{Updates: ups(up("main", 3, 0))}, "yes 41 main 3 0;")
	expectVote(t, young(41), api.Push{Updates: ups(up("main", 3, 3))}, "yes 41 main 3 3;")
	expectVote(t, api.Replica{}, api.Push{Objects: history()[:3], Updates: ups(up("main", 0, 3))}, "yes 0 main 0 3;")
	expectVote(t, young(7), api.Push{Updates: ups(up("d", 0, 3), up("c-1", 0, 3), up("c", 0, 3), up("a/b", 0, 3))}, "yes 7 a/b 0 3;c 0 3;c-1 0 3;d 0 3;")
	// Neither objects nor force are told, nor in which order updates came.
	p := next()
	slices.Reverse(p.Updates)
	slices.Reverse(p.Objects)
	p.Objects = append(p.Objects, history()[6])
	p.Force = true
	expectVote(t, young(41), p, "yes 41 b 0 3;main 3 6;")
}

func TestG1Gen(t *testing.T) {
	for gen, want := range map[int]string{0: "0", 1: "1", 9: "9", 10: "10", 100: "100", 998: "998", 999: "999"} {
		expectVote(t, young(gen), next(), "yes "+want+" b 0 3;main 3 6;")
	}
	for _, gen := range []int{-1, 1000, 1001, math.MinInt, math.MaxInt} {
		expectNoVote(t, young(gen), next(), api.ErrRange)
		// A push that can't be done is not even looked at.
		expectNoVote(t, young(gen), api.Push{Updates: ups(up("main", 3, 50))}, api.ErrRange)
		expectNoVote(t, api.Replica{Store: make([]api.Object, 41), Gen: gen}, next(), api.ErrRange)
	}
}

func TestG1No(t *testing.T) {
	for _, c := range []struct {
		p    api.Push
		want string
	}{
		{api.Push{Objects: history()[4:6], Updates: ups(up("main", 3, 6))}, "no 5"},
		{api.Push{Updates: ups(up("main", 3, 50))}, "no 5"},
		{api.Push{Updates: ups(up("main", 6, 3))}, "no 4"},
		{api.Push{Updates: ups(up("gone", 3, 0))}, "no 4"},
		{api.Push{Updates: ups(up("x", 0, 1))}, "no 7"},
		{api.Push{Objects: []api.Object{obj(9, api.Commit, "", 1)}, Updates: ups(up("x", 0, 9))}, "no 7"},
		{api.Push{Objects: []api.Object{obj(1, api.Blob, "other")}, Updates: ups(up("x", 0, 3))}, "no 6"},
		{api.Push{Updates: ups(up("main/x", 0, 3))}, "no 6"},
		{api.Push{Objects: []api.Object{obj(9, api.Commit, "", 2)}, Updates: ups(up("main", 3, 9))}, "no 4"},
	} {
		for _, gen := range []int{0, 41, 999} {
			expectVote(t, young(gen), c.p, c.want)
		}
	}
	full := young(0)
	for id := 10; len(full.Store) < api.MaxObject; id++ {
		full.Store = append(full.Store, obj(id, api.Blob, ""))
	}
	expectVote(t, full, api.Push{Objects: []api.Object{obj(99, api.Blob, "")}, Updates: ups(up("x", 0, 3))}, "no 2")
}

// TestG1WhatIsWrongWithAReplica is no error: it votes no.
func TestG1WhatIsWrongWithAReplica(t *testing.T) {
	p := api.Push{Updates: ups(up("new", 0, 3))}
	names := func(l ...api.Ref) api.Replica { return api.Replica{Store: history(), Refs: l} }
	expectVote(t, api.Replica{Store: make([]api.Object, 41)}, p, "no 2")
	expectVote(t, api.Replica{Store: make([]api.Object, 1)}, p, "no 3")
	expectVote(t, api.Replica{Store: history()[1:]}, p, "no 5")
	expectVote(t, api.Replica{Store: append(history(), history()...)}, p, "no 4")
	expectVote(t, names(api.Ref{Name: "A", Id: 3}), p, "no 1")
	expectVote(t, names(api.Ref{Name: "a", Id: 1}), p, "no 7")
	expectVote(t, names(make([]api.Ref, 9)...), p, "no 2")
	expectVote(t, names(api.Ref{Name: "a", Id: 3}, api.Ref{Name: "a/b", Id: 3}), p, "no 6")
	// What it holds apart, and its phase, are not looked at.
	r := young(3)
	r.Phase, r.Pending = 77, api.Push{Objects: make([]api.Object, 50), Updates: make([]api.Update, 50)}
	expectVote(t, r, p, "yes 3 new 0 3;")
}

func TestG1WrongPushes(t *testing.T) {
	for _, c := range []struct {
		p    api.Push
		want api.Errno
	}{
		{api.Push{}, api.ErrNone},
		{api.Push{Objects: history()}, api.ErrNone},
		{api.Push{Objects: make([]api.Object, 13), Updates: ups(up("x", 0, 3))}, api.ErrMany},
		{api.Push{Objects: make([]api.Object, 1), Updates: ups(up("x", 0, 3))}, api.ErrRange},
		{api.Push{Objects: []api.Object{obj(1, 9, "")}, Updates: ups(up("x", 0, 3))}, api.ErrKind},
		{api.Push{Updates: make([]api.Update, 5)}, api.ErrMany},
		{api.Push{Updates: ups(up("X", 0, 3))}, api.ErrForm},
		{api.Push{Updates: ups(up("x", 0, 100))}, api.ErrRange},
		{api.Push{Updates: ups(up("x", 0, 3), up("x", 0, 3))}, api.ErrTwice},
	} {
		expectNoVote(t, young(41), c.p, c.want)
		// The push is ahead of Gen, and of all that is wrong with the replica.
		expectNoVote(t, young(-1), c.p, c.want)
		expectNoVote(t, young(1000), c.p, c.want)
		expectNoVote(t, api.Replica{Store: make([]api.Object, 41), Gen: -1}, c.p, c.want)
	}
}

func expectTally(t *testing.T, want string, l ...string) {
	t.Helper()
	if s, ok := Tally(l); s != want || ok != (want != "") {
		t.Errorf("the tally of %q is %q %v, must be %q", l, s, ok, want)
	}
}

func TestG1Tally(t *testing.T) {
	a, b := "yes 1 a 0 3;", "yes 2 a 0 3;"
	expectTally(t, a, a, a, a)
	expectTally(t, a, a, a, b)
	expectTally(t, a, a, b, a)
	expectTally(t, a, b, a, a)
	expectTally(t, a, a, a, "")
	expectTally(t, a, a, "", a)
	expectTally(t, a, "", a, a)
	expectTally(t, a, a, a, "no 4")
	expectTally(t, "", a, b, "yes 3 a 0 3;")
	expectTally(t, "", a, b, "")
	expectTally(t, "", a, "", "")
	expectTally(t, "", "", "", "")
	expectTally(t, "", a, "no 4", "no 4")
	expectTally(t, "", "no 4", "no 4", "no 4")
	expectTally(t, "", a, "no 4", "no 5")
	// Votes are held against each other whole.
	expectTally(t, "", "yes 1 a 0 3;", "yes 1 a 0 3", "yes 1 a 0 3; ")
}

// TestG1TallyOfOtherNumbers of votes: there is none, whatever they say.
func TestG1TallyOfOtherNumbers(t *testing.T) {
	expectTally(t, "")
	for _, n := range []int{0, 1, 2, 4, 5, 6, 100000} {
		l := slices.Repeat([]string{"yes 1 a 0 3;"}, n)
		expectTally(t, "", l...)
		expectTally(t, "", slices.Repeat([]string{""}, n)...)
	}
	expectTally(t, "", "yes", "yes", "", "")
}

// TestG1TallyOfOtherTexts: a vote need not be one that Of tells, if it begins with yes.
func TestG1TallyOfOtherTexts(t *testing.T) {
	for _, s := range []string{"yes", "yes ", "yes 1", "yes no 4", "yesno", "yes\x00\xff"} {
		expectTally(t, s, s, "", s)
	}
	for _, s := range []string{"y", "ye", "yet", "Yes 1", "YES", " yes 1", "no yes", "\x00yes", "no", "-"} {
		expectTally(t, "", s, s, s)
	}
}

// told: what more than half of all that there are say, worked out from each text in turn.
func told(l []string) string {
	if len(l) != 3 {
		return ""
	}
	for _, s := range l {
		same := 0
		for _, other := range l {
			if s == other {
				same++
			}
		}
		if same >= 2 && strings.HasPrefix(s, "yes") {
			return s
		}
	}
	return ""
}

func TestG1TallyOfAllThatMayBe(t *testing.T) {
	texts := []string{"", "yes 1 a 0 3;", "yes 2 a 0 3;", "no 4", "yes", "no 5"}
	lists := [][]string{nil}
	for range 5 {
		for _, l := range lists {
			expectTally(t, told(l), l...)
		}
		var longer [][]string
		for _, l := range lists {
			for _, s := range texts {
				longer = append(longer, append(slices.Clone(l), s))
			}
		}
		lists = longer
	}
}

// TestG2OneVoteIsTold: whatever the order in which votes lie, and whoever else votes, no other one is told.
func TestG2OneVoteIsTold(t *testing.T) {
	texts := []string{"", "yes 1 a 0 3;", "yes 2 a 0 3;", "no 4"}
	for _, a := range texts {
		for _, b := range texts {
			for _, c := range texts {
				said := []string{}
				for _, l := range [][]string{{a, b, c}, {a, c, b}, {b, a, c}, {b, c, a}, {c, a, b}, {c, b, a}} {
					s, ok := Tally(l)
					said = append(said, fmt.Sprint(s, ok))
				}
				if len(slices.Compact(said)) != 1 {
					t.Errorf("of %q, %q, %q are told %q", a, b, c, said)
				}
			}
		}
	}
}

// TestG2ReplicasThatDiffer: replicas of unlike Gen never say yes alike, those of one Gen and the same refs do.
func TestG2ReplicasThatDiffer(t *testing.T) {
	says := func(gen int) string {
		s, _ := Of(young(gen), next())
		return s
	}
	expectTally(t, says(4), says(4), says(4), says(3))
	expectTally(t, "", says(4), says(5), says(3))
	expectTally(t, "", says(1), says(11), says(111))
}

func TestP2ArgumentsAreOnlyRead(t *testing.T) {
	room := []int{1, 2, 4, 77}
	r, p := young(41), next()
	r.Store = append(make([]api.Object, 0, 9), r.Store...)
	r.Refs = append(make([]api.Ref, 0, 9), r.Refs...)
	p.Objects[1].Links = room[:3]
	p.Updates = append(make([]api.Update, 0, 9), p.Updates...)
	all := func() string { return fmt.Sprint(r.Store[:9], r.Refs[:9], p.Objects, p.Updates[:9], room) }
	was := all()
	expectVote(t, r, p, "yes 41 b 0 3;main 3 6;")
	r.Gen = -1
	expectNoVote(t, r, p, api.ErrRange)
	if all() != was {
		t.Errorf("it was %s, and is %s", was, all())
	}
	votes := append(make([]string, 0, 5), "yes", "", "yes")
	copy(votes[3:5], []string{"x", "y"})
	expectTally(t, "yes", votes...)
	if got := fmt.Sprintf("%q", votes[:5]); got != `["yes" "" "yes" "x" "y"]` {
		t.Errorf("the votes became %s", got)
	}
}

func TestP3TheSameAgain(t *testing.T) {
	for range 3 {
		expectVote(t, young(41), next(), "yes 41 b 0 3;main 3 6;")
		expectVote(t, young(41), api.Push{Updates: ups(up("main", 6, 3))}, "no 4")
		expectTally(t, "yes 1", "yes 1", "yes 1", "")
		expectTally(t, "", "", "yes 1", "")
	}
}
