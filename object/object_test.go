package object

import (
	"fmt"
	"math"
	"reflect"
	"slices"
	"strings"
	"testing"

	"forestay/api"
)

func obj(id, kind int, text string, links ...int) api.Object {
	return api.Object{Id: id, Kind: kind, Links: links, Text: text}
}

type objectCase struct {
	name string
	o    api.Object
	want api.Errno
}

var goodObjects = []objectCase{
	{"least blob", obj(1, api.Blob, ""), api.OK},
	{"greatest blob", obj(99, api.Blob, "12345678"), api.OK},
	{"links empty, not nil", api.Object{Id: 1, Kind: api.Blob, Links: []int{}}, api.OK},
	{"any bytes", obj(7, api.Blob, "\x00\xff\n\x80"), api.OK},
	{"tree without links", obj(5, api.Tree, ""), api.OK},
	{"tree of the least id", obj(1, api.Tree, "t"), api.OK},
	{"tree of four", obj(99, api.Tree, "12345678", 1, 2, 50, 98), api.OK},
	{"commit of a tree", obj(2, api.Commit, "c", 1), api.OK},
	{"tree above parents", obj(9, api.Commit, "", 8, 1, 2, 3), api.OK},
	{"tree as the first parent", obj(9, api.Commit, "", 1, 1, 2), api.OK},
	{"tree as the last parent", obj(9, api.Commit, "", 2, 1, 2), api.OK},
}

var badObjects = []objectCase{
	{"nothing", api.Object{}, api.ErrRange},
	{"id 0", obj(0, api.Blob, ""), api.ErrRange},
	{"id below 0", obj(-1, api.Blob, ""), api.ErrRange},
	{"id 100", obj(100, api.Blob, ""), api.ErrRange},
	{"least id of all", obj(math.MinInt, api.Blob, ""), api.ErrRange},
	{"greatest id of all", obj(math.MaxInt, api.Blob, ""), api.ErrRange},
	{"id that is 1 as a byte", obj(257, api.Blob, ""), api.ErrRange},
	{"kind 0", obj(5, 0, ""), api.ErrKind},
	{"kind 4", obj(5, 4, ""), api.ErrKind},
	{"kind below 0", obj(5, -1, ""), api.ErrKind},
	{"kind that is 1 as a byte", obj(5, 257, ""), api.ErrKind},
	{"five links", obj(9, api.Tree, "", 1, 2, 3, 4, 5), api.ErrMany},
	{"nine bytes", obj(5, api.Blob, "123456789"), api.ErrMany},
	{"five signs of two bytes", obj(5, api.Blob, "\u00e9\u00e9\u00e9\u00e9\u00e9"), api.ErrMany},
	{"link 0", obj(5, api.Tree, "", 0), api.ErrRange},
	{"link below 0", obj(5, api.Tree, "", -3), api.ErrRange},
	{"link to itself", obj(5, api.Tree, "", 5), api.ErrRange},
	{"link to a greater one", obj(5, api.Tree, "", 1, 6), api.ErrRange},
	{"commit whose tree is itself", obj(5, api.Commit, "", 5), api.ErrRange},
	{"commit whose tree is 0", obj(5, api.Commit, "", 0, 1), api.ErrRange},
	{"commit whose parent is itself", obj(5, api.Commit, "", 1, 5), api.ErrRange},
	{"links that fall", obj(5, api.Tree, "", 2, 1), api.ErrState},
	{"a link twice", obj(5, api.Tree, "", 1, 1), api.ErrState},
	{"the last link falls", obj(9, api.Tree, "", 1, 2, 4, 3), api.ErrState},
	{"parents that fall", obj(9, api.Commit, "", 8, 2, 1), api.ErrState},
	{"a parent twice", obj(9, api.Commit, "", 8, 2, 2), api.ErrState},
	{"the last parent falls", obj(9, api.Commit, "", 8, 1, 3, 2), api.ErrState},
	{"blob with a link", obj(5, api.Blob, "", 1), api.ErrForm},
	{"commit without a link", obj(5, api.Commit, ""), api.ErrForm},
	{"id ahead of kind", obj(0, 0, ""), api.ErrRange},
	{"id ahead of too many", obj(100, api.Blob, "123456789"), api.ErrRange},
	{"kind ahead of too many", obj(5, 4, "123456789", 1, 2, 3, 4, 5), api.ErrKind},
	{"kind ahead of links", obj(5, 0, "", 9), api.ErrKind},
	{"too many links ahead of one out of range", obj(5, api.Tree, "", 9, 9, 9, 9, 9), api.ErrMany},
	{"too long a text ahead of a link out of range", obj(5, api.Tree, "123456789", 9), api.ErrMany},
	{"too long a text ahead of the form", obj(5, api.Commit, "123456789"), api.ErrMany},
	{"of one link range ahead of rising", obj(5, api.Tree, "", 3, 0), api.ErrRange},
	{"an earlier link that falls ahead of a later one out of range", obj(5, api.Tree, "", 2, 1, 9), api.ErrState},
	{"an earlier link out of range ahead of a later one that falls", obj(5, api.Tree, "", 9, 2, 1), api.ErrRange},
	{"a blob's link out of range ahead of the form", obj(5, api.Blob, "", 9), api.ErrRange},
	{"a blob's links that fall ahead of the form", obj(5, api.Blob, "", 2, 1), api.ErrState},
}

func TestA1Check(t *testing.T) {
	for _, c := range slices.Concat(goodObjects, badObjects) {
		if e := Check(c.o); e != c.want {
			t.Errorf("%s: Check of %#v is %d, must be %d", c.name, c.o, e, c.want)
		}
	}
}

func TestA2EncodeBytes(t *testing.T) {
	for _, c := range []struct {
		o    api.Object
		want string
	}{
		{obj(1, api.Blob, ""), "\x01\x01\x00\x00"},
		{obj(99, api.Blob, "12345678"), "\x63\x01\x00\x0812345678"},
		{obj(5, api.Tree, ""), "\x05\x02\x00\x00"},
		{obj(9, api.Tree, "\xff\x00", 1, 2, 3, 4), "\x09\x02\x04\x01\x02\x03\x04\x02\xff\x00"},
		{obj(9, api.Commit, "text", 2, 1, 7), "\x09\x03\x03\x02\x01\x07\x04text"},
	} {
		if s, e := Encode(c.o); s != c.want || e != api.OK {
			t.Errorf("Encode of %#v is %q %d, must be %q", c.o, s, e, c.want)
		}
	}
}

func TestA2EncodeErrors(t *testing.T) {
	for _, c := range badObjects {
		if s, e := Encode(c.o); s != "" || e != c.want {
			t.Errorf("%s: Encode of %#v is %q %d, must be empty, and %d", c.name, c.o, s, e, c.want)
		}
	}
}

// expectNoObject: with an error every other result has its zero value.
func expectNoObject(t *testing.T, s string, want api.Errno) {
	t.Helper()
	o, n, e := Decode(s)
	if e != want {
		t.Errorf("Decode of %q has errno %d, must have %d", s, e, want)
	}
	if o.Id != 0 || o.Kind != 0 || len(o.Links) != 0 || o.Text != "" || n != 0 {
		t.Errorf("Decode of %q is %#v %d beside an error", s, o, n)
	}
}

func TestA2DecodeTextThatEnds(t *testing.T) {
	for _, c := range goodObjects {
		s, _ := Encode(c.o)
		for n := range len(s) {
			expectNoObject(t, s[:n], api.ErrNone)
		}
	}
}

func TestA2DecodeWrongBytes(t *testing.T) {
	for _, c := range []struct {
		s    string
		want api.Errno
	}{
		{"", api.ErrNone},
		{"\x00", api.ErrNone},
		{"\x00\x00\x00", api.ErrNone},
		{"\x05\x09\x00\x01", api.ErrNone},
		{"\x05\x02\xff\x01\x02\x03\x04\x00", api.ErrNone},
		{"\x05\x01\x00\xff12345678", api.ErrNone},
		{"\x00\x01\x00\x00", api.ErrRange},
		{"\x64\x01\x00\x00", api.ErrRange},
		{"\xff\x01\x00\x00", api.ErrRange},
		{"\x05\x00\x00\x00", api.ErrKind},
		{"\x05\x04\x00\x00", api.ErrKind},
		{"\x09\x02\x05\x01\x02\x03\x04\x05\x00", api.ErrMany},
		{"\x05\x01\x00\x09123456789", api.ErrMany},
		{"\x05\x02\xff" + strings.Repeat("\x01", 255) + "\x00", api.ErrMany},
		{"\x05\x01\x00\xff" + strings.Repeat("a", 255), api.ErrMany},
		{"\x05\x02\x01\x05\x00", api.ErrRange},
		{"\x05\x02\x01\x00\x00", api.ErrRange},
		{"\x05\x02\x02\x02\x01\x00", api.ErrState},
		{"\x05\x01\x01\x01\x00", api.ErrForm},
		{"\x05\x03\x00\x00", api.ErrForm},
	} {
		expectNoObject(t, c.s, c.want)
		if c.want != api.ErrNone {
			expectNoObject(t, c.s+"behind", c.want)
		}
	}
}

func expectDecoded(t *testing.T, s string, want api.Object, bytes int) {
	t.Helper()
	o, n, e := Decode(s)
	alike := o.Id == want.Id && o.Kind == want.Kind && o.Text == want.Text && slices.Equal(o.Links, want.Links)
	if !alike || n != bytes || e != api.OK {
		t.Errorf("Decode of %q is %#v %d %d, must be %#v %d", s, o, n, e, want, bytes)
	}
}

func TestA3WhateverStandsBehind(t *testing.T) {
	for _, c := range goodObjects {
		s, e := Encode(c.o)
		if e != api.OK {
			t.Errorf("%s: Encode has errno %d", c.name, e)
		}
		for _, behind := range []string{"", "z", "\x00", "\xff\xff", s, strings.Repeat("x", 1000)} {
			expectDecoded(t, s+behind, c.o, len(s))
		}
	}
}

// TestA3EveryLink goes through all lists of up to three links of a small object: those that Check lets pass come back.
func TestA3EveryLink(t *testing.T) {
	lists := [][]int{{}}
	for at := 0; len(lists[at]) < 3; at++ {
		for link := 0; link <= 5; link++ {
			lists = append(lists, append(slices.Clone(lists[at]), link))
		}
	}
	passed := map[int]int{}
	for _, links := range lists {
		for kind := api.Blob; kind <= api.Commit; kind++ {
			o := obj(5, kind, "say", links...)
			s, e := Encode(o)
			if e != Check(o) {
				t.Errorf("Encode of %#v has errno %d, Check %d", o, e, Check(o))
			}
			if e == api.OK {
				passed[kind]++
				expectDecoded(t, s+"z", o, len(s))
			}
		}
	}
	// Trees: up to three of 1 to 4, rising. Commits: one of 1 to 4, and up to two, rising.
	if want := (map[int]int{api.Blob: 1, api.Tree: 1 + 4 + 6 + 4, api.Commit: 4 * (1 + 4 + 6)}); !reflect.DeepEqual(passed, want) {
		t.Errorf("of each kind %v pass, must be %v", passed, want)
	}
}

// TestP1AnyText: whatever the text is, Decode ends; an object that it tells is told by just those bytes.
func TestP1AnyText(t *testing.T) {
	seed := uint64(1)
	for range 200000 {
		seed = seed*6364136223846793005 + 1442695040888963407
		b := make([]byte, seed>>33%14)
		for i := range b {
			seed = seed*6364136223846793005 + 1442695040888963407
			b[i] = byte(seed >> 33 % 6)
		}
		o, n, e := Decode(string(b))
		if e != api.OK {
			expectNoObject(t, string(b), e)
			continue
		}
		if s, f := Encode(o); n > len(b) || s != string(b[:n]) || f != api.OK {
			t.Fatalf("Decode of %q is %#v %d, and that is encoded as %q %d", b, o, n, s, f)
		}
	}
}

func TestP2LinksAreOnlyRead(t *testing.T) {
	room := []int{2, 1, 7, 50, 60}
	o := api.Object{Id: 9, Kind: api.Commit, Links: room[:3], Text: "text"}
	s, _ := Encode(o)
	Check(o)
	if fmt.Sprint(room) != "[2 1 7 50 60]" {
		t.Errorf("the links, and what is behind them, became %v", room)
	}
	first, _, _ := Decode(s)
	first.Links[0] = 90
	expectDecoded(t, s, o, len(s))
}
