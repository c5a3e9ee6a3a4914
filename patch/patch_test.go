package patch_test

import (
	"fmt"
	"math/rand"
	"reflect"
	"slices"
	"strings"
	"testing"

	"selvage/api"
	"selvage/patch"
)

const keep, del, ins = api.Keep, api.Delete, api.Insert

// letters tells a line for each byte.
func letters(s string) []string {
	var l []string
	for _, c := range s {
		l = append(l, string(c)+"\n")
	}
	return l
}

func edits(l ...int) []api.Edit {
	var out []api.Edit
	for k := 0; k < len(l); k += 2 {
		out = append(out, api.Edit{Op: l[k], N: l[k+1]})
	}
	return out
}

func text(t *testing.T, l []api.Hunk) string {
	t.Helper()
	s, e := patch.Text(l...)
	if e != api.OK {
		t.Fatal(e)
	}
	return s
}

func TestTheExample(t *testing.T) { // P1301, P1302
	got, e := patch.Hunks(letters("abc"), letters("axc"), 1)
	want := []api.Hunk{{Edits: edits(keep, 1, del, 1, ins, 1, keep, 1), Lines: []string{"a\n", "b\n", "x\n", "c\n"}}}
	if e != api.OK || !reflect.DeepEqual(got, want) {
		t.Fatal(got, e)
	}
	if s := text(t, got); s != "@@ -0,3 +0,3 @@\n a\n-b\n+x\n c\n" {
		t.Errorf("%q", s)
	}
}

func TestHunks(t *testing.T) { // P1301
	for _, x := range []struct {
		a, b   string
		around int
		want   string
	}{
		{"abc", "abc", 3, ""},
		{"", "", 3, ""},
		{"", "a", 3, "@@ -0,0 +0,1 @@|+a|"},
		{"a", "", 0, "@@ -0,1 +0,0 @@|-a|"},
		{"abcdefg", "abcXefg", 0, "@@ -3,1 +3,1 @@|-d|+X|"},
		{"abcdefg", "abcXefg", 2, "@@ -1,5 +1,5 @@| b| c|-d|+X| e| f|"},
		{"abcdefg", "abcXefg", 10, "@@ -0,7 +0,7 @@| a| b| c|-d|+X| e| f| g|"},
		{"abcdefg", "Xbcdefg", 1, "@@ -0,2 +0,2 @@|-a|+X| b|"},
		{"abcdefg", "abcdefX", 1, "@@ -5,2 +5,2 @@| f|-g|+X|"},
		{"abcdefg", "aXcYefg", 0, "@@ -1,1 +1,1 @@|-b|+X|@@ -3,1 +3,1 @@|-d|+Y|"},
		{"abcdefg", "aXcYefg", 1, "@@ -0,5 +0,5 @@| a|-b|+X| c|-d|+Y| e|"},
		{"abcdefgh", "aXcdYfgh", 1, "@@ -0,6 +0,6 @@| a|-b|+X| c| d|-e|+Y| f|"},
		{"abcdefgh", "aXcdeYgh", 1, "@@ -0,3 +0,3 @@| a|-b|+X| c|@@ -4,3 +4,3 @@| e|-f|+Y| g|"},
		{"abcdefgh", "acdefXYgh", 1, "@@ -0,3 +0,2 @@| a|-b| c|@@ -5,2 +4,4 @@| f|+X|+Y| g|"},
		{"ab", "xayb", 0, "@@ -0,0 +0,1 @@|+x|@@ -1,0 +2,1 @@|+y|"},
	} {
		got, e := patch.Hunks(letters(x.a), letters(x.b), x.around)
		if e != api.OK || strings.ReplaceAll(text(t, got), "\n", "|") != x.want {
			t.Errorf("Hunks(%s, %s, %d): %q, %v", x.a, x.b, x.around, text(t, got), e)
		}
	}
}

func TestHunksRefuses(t *testing.T) { // P1301
	long := make([]string, 4001)
	for _, n := range []int{-1, 11, 1 << 40} {
		if l, e := patch.Hunks(long, nil, n); e != api.ErrArg || l != nil {
			t.Errorf("around %d: %v", n, e)
		}
	}
	if l, e := patch.Hunks(long, nil, 10); e != api.ErrMany || l != nil {
		t.Error(e)
	}
	if _, e := patch.Hunks([]string{"", "a\nb"}, []string{"", "c"}, 0); e != api.OK {
		t.Error("lines are asked:", e)
	}
}

// change tells the example's hunk, changed.
func change(f func(h *api.Hunk)) api.Hunk {
	h := api.Hunk{AtA: 0, AtB: 0, Edits: edits(keep, 1, del, 1, ins, 1, keep, 1), Lines: letters("abxc")}
	if f != nil {
		f(&h)
	}
	return h
}

func mayNotBe() []api.Hunk {
	var out []api.Hunk
	for _, f := range []func(h *api.Hunk){
		func(h *api.Hunk) { h.AtA = -1 },
		func(h *api.Hunk) { h.AtB = -1 },
		func(h *api.Hunk) { h.AtA = 1000000000 },
		func(h *api.Hunk) { h.AtB = 1000000000 },
		func(h *api.Hunk) { h.Edits = edits(keep, 4) },
		func(h *api.Hunk) { h.Edits, h.Lines = nil, nil },
		func(h *api.Hunk) { h.Edits[0].Op = 3 },
		func(h *api.Hunk) { h.Edits[0].Op = -1 },
		func(h *api.Hunk) { h.Edits[0].N = 0 },
		func(h *api.Hunk) { h.Edits[1].N = -1 },
		func(h *api.Hunk) { h.Edits[1].N = 1 << 62 },
		func(h *api.Hunk) { h.Edits = edits(keep, 1, del, 1, del, 1, keep, 1) },
		func(h *api.Hunk) { h.Edits = edits(keep, 1, keep, 1, del, 1, keep, 1) },
		func(h *api.Hunk) { h.Edits[3].N = 2 },
		func(h *api.Hunk) { h.Edits = edits(keep, 1, del, 0, ins, 2, keep, 1) },
		func(h *api.Hunk) { h.Edits = edits(keep, 5, del, -1) },
		func(h *api.Hunk) { h.Lines = h.Lines[:3] },
		func(h *api.Hunk) { h.Lines = append(h.Lines, "d\n") },
		func(h *api.Hunk) { h.Lines[2] = "" },
		func(h *api.Hunk) { h.Lines[3] = "a\nb" },
		func(h *api.Hunk) { h.Lines[3] = "\n\n" },
	} {
		out = append(out, change(f))
	}
	return out
}

func TestHunksThatMayNotBe(t *testing.T) { // P1302, P1303
	good := change(nil)
	for k, h := range mayNotBe() {
		if s, e := patch.Text(good, h); e != api.ErrArg || s != "" {
			t.Errorf("Text: %d: %v", k, e)
		}
		if l, e := patch.Apply(make([]string, 4001), good, h); e != api.ErrArg || l != nil {
			t.Errorf("Apply: %d: %v", k, e)
		}
		patch.Reverse(h)
	}
	for k, f := range []func(h *api.Hunk){
		func(h *api.Hunk) { h.AtA, h.AtB = 999999999, 999999999 },
		func(h *api.Hunk) { h.Edits = edits(ins, 1, del, 1, ins, 1, del, 1) },
		func(h *api.Hunk) { h.Lines[0], h.Lines[1] = "\n", "no end" },
		func(h *api.Hunk) { h.Edits = edits(del, 4) },
	} {
		h := change(f)
		got, e := patch.Parse(text(t, []api.Hunk{h, good}))
		if e != api.OK || !reflect.DeepEqual(got, []api.Hunk{h, good}) {
			t.Errorf("%d: %v, %v", k, got, e)
		}
	}
}

func TestText(t *testing.T) { // P1302
	h := api.Hunk{AtA: 12, AtB: 34, Edits: edits(keep, 1, ins, 2, del, 1), Lines: []string{"-a\n", "@@\n", "\n", "\\"}}
	if s := text(t, []api.Hunk{h}); s != "@@ -12,2 +34,3 @@\n -a\n+@@\n+\n-\\\n\\\n" {
		t.Errorf("%q", s)
	}
	if s := text(t, nil); s != "" {
		t.Errorf("%q", s)
	}
}

func TestParseRefuses(t *testing.T) { // P1302
	good := "@@ -0,2 +0,2 @@\n a\n-b\n+c\n"
	if l, e := patch.Parse(good); e != api.OK || len(l) != 1 {
		t.Fatal(e)
	}
	if l, e := patch.Parse(""); e != api.OK || len(l) != 0 {
		t.Fatal(e)
	}
	for _, s := range []string{
		"x", "\n", " a\n", "-a\n" + good, good[:len(good)-1], good + "x\n", good + "\n", good + "@@\n", good + "\\\n\\\n", "\\\n" + good,
		"@@ -0,1 +0,2 @@\n a\n-b\n+c\n", "@@ -0,2 +0,1 @@\n a\n-b\n+c\n", "@@ -00,2 +0,2 @@\n a\n-b\n+c\n", "@@ -0,02 +0,2 @@\n a\n-b\n+c\n",
		"@@ -+0,2 +0,2 @@\n a\n-b\n+c\n", "@@ --1,2 +0,2 @@\n a\n-b\n+c\n", "@@ -0,2 +1000000000,2 @@\n a\n-b\n+c\n", "@@ -0,2 +0,2 @@ \n a\n-b\n+c\n",
		"@@ -0,2  +0,2 @@\n a\n-b\n+c\n", "@@ -x,2 +0,2 @@\n a\n-b\n+c\n", "@@-0,2 +0,2 @@\n a\n-b\n+c\n", "@@ -0,1 +0,1 @@\n a\n", "@@ -0,0 +0,0 @@\n",
		"@@ -0,1 +0,0 @@\n-\n\\\n", "@@ -0,1 +0,0 @@\n-a\n\\\n\\\n", "@@ -99999999999999999999,1 +0,0 @@\n-a\n", "@", "@@ -0,1 +0,0 @@", "@@ -0,1 +0,0 @@\n-a",
	} {
		if l, e := patch.Parse(s); e != api.ErrPatch || l != nil {
			t.Errorf("Parse(%q): %v", s, e)
		}
	}
}

func TestApply(t *testing.T) { // P1303
	a := slices.Clip(letters("abcdef"))
	hunk := func(atA, atB int, s string) api.Hunk {
		var h api.Hunk
		h.AtA, h.AtB = atA, atB
		for k := 0; k < len(s); k += 2 {
			op := strings.IndexByte(" -+", s[k])
			if n := len(h.Edits); n > 0 && h.Edits[n-1].Op == op {
				h.Edits[n-1].N++
			} else {
				h.Edits = append(h.Edits, api.Edit{Op: op, N: 1})
			}
			h.Lines = append(h.Lines, s[k+1:k+2]+"\n")
		}
		return h
	}
	for k, x := range []struct {
		l    []api.Hunk
		want api.Errno
		out  string
	}{
		{nil, api.OK, "abcdef"},
		{[]api.Hunk{hunk(1, 1, " b-c+x+y d")}, api.OK, "abxydef"},
		{[]api.Hunk{hunk(0, 0, "-a-b"), hunk(2, 0, "+x"), hunk(5, 4, "-f")}, api.OK, "xcde"},
		{[]api.Hunk{hunk(0, 0, "+x"), hunk(0, 1, "+y")}, api.OK, "xyabcdef"},
		{[]api.Hunk{hunk(6, 6, "+x")}, api.OK, "abcdefx"},
		{[]api.Hunk{hunk(0, 0, "+x-a+y")}, api.OK, "xybcdef"},
		{[]api.Hunk{hunk(1, 1, "-b-c"), hunk(2, 0, "-c")}, api.ErrOrder, ""},
		{[]api.Hunk{hunk(1, 1, "-b"), hunk(0, 9, "-x")}, api.ErrOrder, ""},
		{[]api.Hunk{hunk(1, 1, "-x"), hunk(0, 0, "-a")}, api.ErrPatch, ""},
		{[]api.Hunk{hunk(1, 2, "-b")}, api.ErrPatch, ""},
		{[]api.Hunk{hunk(0, 0, "+x"), hunk(1, 1, "-b")}, api.ErrPatch, ""},
		{[]api.Hunk{hunk(0, 0, "-a"), hunk(1, 1, "-b")}, api.ErrPatch, ""},
		{[]api.Hunk{hunk(1, 1, " c-b")}, api.ErrPatch, ""},
		{[]api.Hunk{hunk(5, 5, "-f-g")}, api.ErrPatch, ""},
		{[]api.Hunk{hunk(5, 5, " f-g")}, api.ErrPatch, ""},
		{[]api.Hunk{hunk(7, 7, "+x")}, api.ErrPatch, ""},
		{[]api.Hunk{hunk(999999999, 999999999, "+x")}, api.ErrPatch, ""},
	} {
		got, e := patch.Apply(a, x.l...)
		if e != x.want || !slices.Equal(got, letters(x.out)) {
			t.Errorf("%d: %q, %v", k, got, e)
		}
	}
	long := make([]string, 4001)
	if l, e := patch.Apply(long); e != api.ErrMany || l != nil {
		t.Error(e)
	}
	if l, e := patch.Apply(long, hunk(9, 0, "-a")); e != api.ErrMany || l != nil {
		t.Error(e)
	}
	if l, e := patch.Apply(long[1:]); e != api.OK || len(l) != 4000 {
		t.Error(e)
	}
}

func TestReverse(t *testing.T) { // P1303
	h := api.Hunk{AtA: 3, AtB: 5, Lines: letters("123456789A"),
		Edits: edits(ins, 1, del, 1, ins, 1, keep, 1, del, 1, ins, 1, del, 2, keep, 1, ins, 1)}
	want := api.Hunk{AtA: 5, AtB: 3, Lines: letters("132465789A"),
		Edits: edits(del, 2, ins, 1, keep, 1, del, 1, ins, 3, keep, 1, del, 1)}
	got := patch.Reverse(h)
	if len(got) != 1 || !reflect.DeepEqual(got[0], want) {
		t.Errorf("%v\n%v", got[0], want)
	}
	if len(patch.Reverse()) != 0 {
		t.Error("hunks of nothing")
	}
}

func TestRoundTrips(t *testing.T) { // P1304
	r := rand.New(rand.NewSource(15))
	for range 2000 {
		row := func() []string {
			l := letters(strings.Repeat("k", r.Intn(3)))
			for range r.Intn(25) {
				l = append(l, string("abc"[r.Intn(3)])+"\n")
			}
			if len(l) > 0 && r.Intn(3) == 0 {
				l[len(l)-1] = "end"
			}
			return l
		}
		a, b, around := row(), row(), r.Intn(11)
		if r.Intn(2) == 0 {
			b = slices.Clone(a)
			for range 1 + r.Intn(3) {
				if len(b) > 0 {
					b[r.Intn(len(b))] = "new\n"
				}
			}
		}
		l, e := patch.Hunks(a, b, around)
		if e != api.OK {
			t.Fatal(e)
		}
		if got, e := patch.Apply(a, l...); e != api.OK || !slices.Equal(got, b) {
			t.Fatalf("%q, %q, %d: %q, %v", a, b, around, got, e)
		}
		if got, e := patch.Apply(b, patch.Reverse(l...)...); e != api.OK || !slices.Equal(got, a) {
			t.Fatalf("%q, %q, %d: back: %q, %v", a, b, around, got, e)
		}
		if got, e := patch.Parse(text(t, l)); e != api.OK || len(l) > 0 && !reflect.DeepEqual(got, l) {
			t.Fatalf("%q: %v", text(t, l), e)
		}
		for _, h := range l { // no more kept lines at its ends than around
			for _, x := range []api.Edit{h.Edits[0], h.Edits[len(h.Edits)-1]} {
				if x.Op == keep && x.N > around {
					t.Fatal(h)
				}
			}
		}
	}
}

// Texts that are nearly one are read as what they say, or not at all.
func TestParseOfChangedTexts(t *testing.T) { // P1302
	r := rand.New(rand.NewSource(16))
	base := text(t, []api.Hunk{change(nil), {AtA: 9, AtB: 10, Edits: edits(ins, 2), Lines: []string{"x\n", "y"}}})
	for range 20000 {
		b := []byte(base)
		for range 1 + r.Intn(2) {
			b[r.Intn(len(b))] = "@ -+,0123\n\\ab"[r.Intn(13)]
		}
		if l, e := patch.Parse(string(b)); e == api.OK && text(t, l) != string(b) {
			t.Fatalf("%q", b)
		}
	}
}

func TestNothingIsShared(t *testing.T) { // P2
	a, b := letters("abcd"), letters("axcd")
	l, _ := patch.Hunks(a, b, 1)
	m, _ := patch.Hunks(a, letters("xbcy"), 0)
	if len(m) != 2 {
		t.Fatal(len(m))
	}
	m[0].Lines = append(m[0].Lines, "!", "!")
	m[0].Edits = append(m[0].Edits, api.Edit{})
	if m[1].Lines[0] != "d\n" || m[1].Edits[0] != (api.Edit{Op: del, N: 1}) {
		t.Error("two hunks share memory")
	}
	back := patch.Reverse(l...)
	clear(back[0].Lines)
	clear(back[0].Edits)
	out, _ := patch.Apply(a, l...)
	clear(out)
	if fmt.Sprint(l[0].Edits) != fmt.Sprint(edits(keep, 1, del, 1, ins, 1, keep, 1)) || l[0].Lines[0] != "a\n" || a[0] != "a\n" {
		t.Error("memory is shared")
	}
	clear(l[0].Lines)
	if !slices.Equal(a, letters("abcd")) || !slices.Equal(b, letters("axcd")) {
		t.Error("memory is shared")
	}
}
