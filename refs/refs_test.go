package refs

import (
	"fmt"
	"math"
	"slices"
	"strings"
	"testing"

	"forestay/api"
)

// history: a blob, a tree, and commits 3, 6 and 7.
func history() []api.Object {
	return []api.Object{
		{Id: 1, Kind: api.Blob, Text: "one"},
		{Id: 2, Kind: api.Tree, Links: []int{1}},
		{Id: 3, Kind: api.Commit, Links: []int{2}},
		{Id: 6, Kind: api.Commit, Links: []int{2, 3}},
		{Id: 7, Kind: api.Commit, Links: []int{2, 3, 6}},
	}
}

// named: a ref of commit 3 for each name.
func named(names ...string) []api.Ref {
	var l []api.Ref
	for _, name := range names {
		l = append(l, api.Ref{Name: name, Id: 3})
	}
	return l
}

var goodNames = []string{"a", "z", "0", "9", "-", "--", "main", "a-b", "a/b", "-/-", "0/9", "a/b/c/d/e/f", "abcdefghijkl", "a/cdefghij/l", "abcdefghij/l", "zzzzzzzzzzzz"}

type nameCase struct {
	name string
	want api.Errno
}

var badNames = []nameCase{
	{"", api.ErrForm},
	{"/", api.ErrForm},
	{"//", api.ErrForm},
	{"/a", api.ErrForm},
	{"a/", api.ErrForm},
	{"a//b", api.ErrForm},
	{"a/b//c", api.ErrForm},
	{"a///b", api.ErrForm},
	{"bcdefghijkl/", api.ErrForm},
	{"/bcdefghijkl", api.ErrForm},
	{"A", api.ErrForm},
	{"aZ", api.ErrForm},
	{"a b", api.ErrForm},
	{"a/b.c", api.ErrForm},
	{"a_", api.ErrForm},
	{"a\x00", api.ErrForm},
	{"\xff", api.ErrForm},
	{"a\u00e9", api.ErrForm},
	{"\ufffd", api.ErrForm},
	{"\u0661", api.ErrForm},
	{"abcdefghijk\n", api.ErrForm},
	{"abcdefghijklm", api.ErrMany},
	{"ABCDEFGHIJKLM", api.ErrMany},
	{"/////////////", api.ErrMany},
	{"a/b/c/d/e/f/g", api.ErrMany},
	{"\u00e9\u00e9\u00e9\u00e9\u00e9\u00e9\u00e9", api.ErrMany},
	{strings.Repeat("a", 100000), api.ErrMany},
}

func TestD1Name(t *testing.T) {
	for _, name := range goodNames {
		if e := Name(name); e != api.OK {
			t.Errorf("Name of %q is %d", name, e)
		}
	}
	for _, c := range badNames {
		if e := Name(c.name); e != c.want {
			t.Errorf("Name of %q is %d, must be %d", c.name, e, c.want)
		}
	}
}

func TestD1EveryByteOfAName(t *testing.T) {
	for b := range 256 {
		sign := string([]byte{byte(b)})
		may := strings.Contains("abcdefghijklmnopqrstuvwxyz0123456789-", sign)
		want := map[bool]api.Errno{true: api.OK, false: api.ErrForm}
		if e := Name(sign); e != want[may] {
			t.Errorf("Name of %q is %d, must be %d", sign, e, want[may])
		}
		if e := Name("a" + sign + "b"); e != want[may || b == '/'] {
			t.Errorf("Name of %q is %d, must be %d", "a"+sign+"b", e, want[may || b == '/'])
		}
	}
}

// TestD1EveryShortName holds Name against each rule by itself.
func TestD1EveryShortName(t *testing.T) {
	names := []string{""}
	for at := 0; len(names[at]) < 5; at++ {
		for _, sign := range []string{"a", "-", "/", "7", "A"} {
			names = append(names, names[at]+sign)
		}
	}
	for _, s := range names {
		bad := s == "" || strings.Contains(s, "A") || strings.HasPrefix(s, "/") || strings.HasSuffix(s, "/") || strings.Contains(s, "//")
		if e := Name(s); e == api.ErrForm != bad || e == api.OK == bad {
			t.Errorf("Name of %q is %d, wrong is %v", s, e, bad)
		}
	}
}

type refsCase struct {
	name string
	l    []api.Ref
	want api.Errno
}

var goodRefs = []refsCase{
	{"none", nil, api.OK},
	{"an empty list", []api.Ref{}, api.OK},
	{"one", named("main"), api.OK},
	{"all commits", []api.Ref{{Name: "a", Id: 7}, {Name: "b", Id: 3}, {Name: "c", Id: 6}, {Name: "d", Id: 7}}, api.OK},
	{"as many as may be", named("a", "b", "c", "d", "e", "f", "g", "h"), api.OK},
	{"a beginning ahead", named("a", "ab", "abc"), api.OK},
	{"byte by byte", named("-", "0", "9", "a", "aa", "b"), api.OK},
	{"a minus ahead of a slash", named("a-b", "a/b", "a0"), api.OK},
	{"in one place", named("a/b", "a/c", "a/d/e"), api.OK},
	{"a beginning without a slash", named("a", "a-b", "ab/c"), api.OK},
	{"a place of another one's end", named("b", "x/b/c"), api.OK},
	{"names as long as may be", named("abcdefghijkl", "abcdefghijkm"), api.OK},
}

var badRefs = []refsCase{
	{"one too many", named("a", "b", "c", "d", "e", "f", "g", "h", "i"), api.ErrMany},
	{"too many ahead of a name", make([]api.Ref, 9), api.ErrMany},
	{"a ref without anything", []api.Ref{{}}, api.ErrForm},
	{"a name that is too long", named("a", "bcdefghijklmn"), api.ErrMany},
	{"a name of a wrong form", named("a", "b", "c/"), api.ErrForm},
	{"names that fall", named("b", "a"), api.ErrState},
	{"the last name falls", named("a", "c", "b"), api.ErrState},
	{"a name that is a beginning behind", named("ab", "a"), api.ErrState},
	{"a digit behind a letter", named("a", "9"), api.ErrState},
	{"a slash ahead of a minus", named("a/b", "a-b"), api.ErrState},
	{"a name twice", named("a", "a"), api.ErrState},
	{"a name twice, of two commits", []api.Ref{{Name: "a", Id: 3}, {Name: "a", Id: 6}}, api.ErrState},
	{"of 0", []api.Ref{{Name: "a", Id: 0}}, api.ErrNone},
	{"of one below 0", []api.Ref{{Name: "a", Id: -3}}, api.ErrNone},
	{"of one that is not there", []api.Ref{{Name: "a", Id: 3}, {Name: "b", Id: 5}}, api.ErrNone},
	{"of the greatest number", []api.Ref{{Name: "a", Id: math.MaxInt}}, api.ErrNone},
	{"of a blob", []api.Ref{{Name: "a", Id: 1}}, api.ErrKind},
	{"of a tree", []api.Ref{{Name: "a", Id: 3}, {Name: "b", Id: 2}}, api.ErrKind},
	{"a name that is a place", named("a", "a/b"), api.ErrTwice},
	{"a name that is a place further on", named("a", "a-b", "a/b"), api.ErrTwice},
	{"a place in a place", named("a/b", "a/b/c"), api.ErrTwice},
	{"a place of a place", named("a", "a/b/c"), api.ErrTwice},
	{"the last two", named("a", "b", "c", "d", "e", "f", "g", "g/h"), api.ErrTwice},
	{"of one ref the name ahead of rising", named("b", "A"), api.ErrForm},
	{"of one ref rising ahead of its object", []api.Ref{{Name: "b", Id: 3}, {Name: "a", Id: 9}}, api.ErrState},
	{"of one ref rising ahead of its kind", []api.Ref{{Name: "b", Id: 3}, {Name: "b", Id: 1}}, api.ErrState},
	{"of one ref the name ahead of its object", []api.Ref{{Name: "/", Id: 9}}, api.ErrForm},
	{"an earlier ref's object ahead of a later name", []api.Ref{{Name: "b", Id: 9}, {Name: "A", Id: 3}}, api.ErrNone},
	{"an earlier ref's kind ahead of a later one that falls", []api.Ref{{Name: "b", Id: 1}, {Name: "a", Id: 3}}, api.ErrKind},
	{"an earlier ref that falls ahead of a later name", named("b", "a", "A"), api.ErrState},
	{"an earlier ref's kind ahead of a later one's object", []api.Ref{{Name: "a", Id: 1}, {Name: "b", Id: 9}}, api.ErrKind},
	{"a later name ahead of a place", named("a", "a/b", "b/"), api.ErrForm},
	{"a later object ahead of a place", []api.Ref{{Name: "a", Id: 3}, {Name: "a/b", Id: 9}}, api.ErrNone},
	{"a later kind ahead of a place", []api.Ref{{Name: "a", Id: 3}, {Name: "a/b", Id: 2}}, api.ErrKind},
	{"places that fall", named("a/b", "a"), api.ErrState},
}

func TestD1Check(t *testing.T) {
	for _, c := range slices.Concat(goodRefs, badRefs) {
		if e := Check(c.l, history()); e != c.want {
			t.Errorf("%s: Check of %v is %d, must be %d", c.name, c.l, e, c.want)
		}
	}
}

func TestD1CheckEachName(t *testing.T) {
	for _, name := range goodNames {
		if e := Check(named(name), history()); e != api.OK {
			t.Errorf("Check of %q is %d", name, e)
		}
	}
	for _, c := range badNames {
		if e := Check(named(c.name), history()); e != c.want {
			t.Errorf("Check of %q is %d, must be %d", c.name, e, c.want)
		}
	}
}

func TestD1CheckOfAnEmptyStore(t *testing.T) {
	if e := Check(nil, nil); e != api.OK {
		t.Errorf("Check of nothing is %d", e)
	}
	if e := Check(named("a"), nil); e != api.ErrNone {
		t.Errorf("Check of a ref without objects is %d", e)
	}
}

func TestD1CheckOfWhatIsNoStore(t *testing.T) {
	for _, c := range []struct {
		objects []api.Object
		want    api.Errno
	}{
		{make([]api.Object, 41), api.ErrMany},
		{[]api.Object{{}}, api.ErrRange},
		{[]api.Object{{Id: 1, Kind: 4}}, api.ErrKind},
		{[]api.Object{{Id: 2, Kind: api.Tree, Links: []int{1}}}, api.ErrNone},
		{[]api.Object{{Id: 2, Kind: api.Tree}, {Id: 1, Kind: api.Tree}}, api.ErrState},
	} {
		for _, l := range [][]api.Ref{nil, named("main"), named("/"), make([]api.Ref, 9), named("b", "a")} {
			if e := Check(l, c.objects); e != c.want {
				t.Errorf("Check of %v with %v is %d, must be %d", l, c.objects, e, c.want)
			}
		}
	}
}

func expectGot(t *testing.T, l []api.Ref, name string, want int, errno api.Errno) {
	t.Helper()
	if id, e := Get(l, name); id != want || e != errno {
		t.Errorf("Get of %q in %v is %d %d, must be %d %d", name, l, id, e, want, errno)
	}
}

func TestD1Get(t *testing.T) {
	l := []api.Ref{{Name: "a", Id: 3}, {Name: "a/b", Id: 6}, {Name: "main", Id: 7}}
	expectGot(t, l, "a", 3, api.OK)
	expectGot(t, l, "a/b", 6, api.OK)
	expectGot(t, l, "main", 7, api.OK)
	for _, name := range []string{"b", "mai", "maim", "mainn", "a/c", "a-b"} {
		expectGot(t, l, name, 0, api.ErrNone)
		expectGot(t, nil, name, 0, api.ErrNone)
	}
}

// TestD1GetOfAListAsItIs: whether the list is one of refs is not asked.
func TestD1GetOfAListAsItIs(t *testing.T) {
	expectGot(t, []api.Ref{{Name: "b", Id: 4}, {Name: "a", Id: 5}, {Name: "b", Id: 6}}, "b", 4, api.OK)
	expectGot(t, []api.Ref{{Name: "b", Id: 4}, {Name: "a", Id: 5}, {Name: "b", Id: 6}}, "a", 5, api.OK)
	expectGot(t, []api.Ref{{Name: "a", Id: 0}, {Name: "a", Id: 6}}, "a", 0, api.OK)
	expectGot(t, []api.Ref{{Name: "//", Id: 1}, {}, {Name: "a", Id: -7}}, "a", -7, api.OK)
	many := make([]api.Ref, 100000)
	many[99999] = api.Ref{Name: "a", Id: math.MaxInt}
	expectGot(t, many, "a", math.MaxInt, api.OK)
}

func TestD1GetWrongNames(t *testing.T) {
	for _, c := range badNames {
		expectGot(t, nil, c.name, 0, c.want)
		expectGot(t, named(c.name), c.name, 0, c.want)
	}
}

// draw numbers, the same each time.
type draw uint64

func (d *draw) below(n int) int {
	*d = *d*6364136223846793005 + 1442695040888963407
	return int(uint64(*d) >> 33 % uint64(n))
}

// refs drawn from names of which some are places of others.
func (d *draw) refs() []api.Ref {
	var l []api.Ref
	for _, name := range []string{"a", "a-b", "a/b", "a/b/c", "a/c", "ab", "b", "b/a"} {
		if d.below(3) == 0 {
			l = append(l, api.Ref{Name: name, Id: []int{3, 6, 7}[d.below(3)]})
		}
	}
	if d.below(4) == 0 && len(l) > 0 {
		l = append(l, l[d.below(len(l))])
	}
	return l
}

// expectPlain: each name is there once, and no step of one is another one.
func expectPlain(t *testing.T, l []api.Ref) {
	t.Helper()
	of := map[string]int{}
	for _, r := range l {
		of[r.Name]++
	}
	for _, r := range l {
		if id, e := Get(l, r.Name); of[r.Name] != 1 || id != r.Id || e != api.OK {
			t.Fatalf("%q is there %d times in %v, and Get is %d %d", r.Name, of[r.Name], l, id, e)
		}
		for i, c := range r.Name {
			if c == '/' && of[r.Name[:i]] > 0 {
				t.Fatalf("%q is a name and a place in %v", r.Name[:i], l)
			}
		}
	}
}

func TestD2EachNameIsOfOneCommit(t *testing.T) {
	d := new(draw)
	told := map[api.Errno]int{}
	for range 20000 {
		l := d.refs()
		e := Check(l, history())
		told[e]++
		if e == api.OK {
			expectPlain(t, l)
		}
	}
	if told[api.OK] < 1000 || told[api.ErrTwice] < 1000 || told[api.ErrState] < 1000 {
		t.Errorf("only %v were told: the draw does not try the promise", told)
	}
}

func TestP2ArgumentsAreOnlyRead(t *testing.T) {
	l := append(make([]api.Ref, 0, 6), named("a", "b", "b/c")...)
	objects := append(make([]api.Object, 0, 9), history()...)
	copy(l[3:6], named("x", "y", "z"))
	copy(objects[5:9], history())
	was := fmt.Sprint(l[:6], objects[:9])
	if e := Check(l, objects); e != api.ErrTwice {
		t.Errorf("Check is %d", e)
	}
	Get(l, "b")
	if is := fmt.Sprint(l[:6], objects[:9]); is != was {
		t.Errorf("they became %s", is)
	}
}
