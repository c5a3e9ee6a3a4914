package merge3_test

import (
	"fmt"
	"math/rand"
	"reflect"
	"slices"
	"strings"
	"testing"

	"selvage/api"
	"selvage/lines"
	"selvage/merge3"
)

func rows(s string) []string {
	var l []string
	for _, c := range s {
		l = append(l, string(c)+"\n")
	}
	return l
}

func text(s string) []byte { return lines.Join(rows(s)...) }

// told tells chunks: a letter of the kind, and the lines of base, ours, theirs.
func told(l []api.Chunk) string {
	var out []string
	for _, c := range l {
		s := string("SOTBC"[c.Kind])
		for _, side := range [][]string{c.Base, c.Ours, c.Theirs} {
			s += "," + strings.ReplaceAll(string(lines.Join(side...)), "\n", "")
		}
		out = append(out, s)
	}
	return strings.Join(out, " ")
}

func TestChunks(t *testing.T) { // P1401
	for _, x := range []struct{ base, ours, theirs, want string }{
		{"", "", "", ""},
		{"abc", "abc", "abc", "S,abc,abc,abc"},
		{"abc", "axc", "abcd", "S,a,a,a O,b,x,b S,c,c,c T,,,d"},
		{"a", "b", "c", "C,a,b,c"},
		{"abc", "axc", "axc", "S,a,a,a B,b,x,x S,c,c,c"},
		{"abc", "axc", "ayc", "S,a,a,a C,b,x,y S,c,c,c"},
		{"abc", "ac", "ac", "S,a,a,a B,b,, S,c,c,c"},
		{"abc", "ac", "abc", "S,a,a,a O,b,,b S,c,c,c"},
		{"abc", "abc", "ac", "S,a,a,a T,b,b, S,c,c,c"},
		{"abc", "axbc", "abyc", "S,a,a,a O,,x, S,b,b,b T,,,y S,c,c,c"},
		{"", "a", "a", "B,,a,a"},
		{"", "a", "b", "C,,a,b"},
		{"", "a", "", "O,,a,"},
		{"ab", "b", "a", "C,ab,b,a"},
		{"abcd", "bcd", "abc", "O,a,,a S,bc,bc,bc T,d,d,"},
		{"abcdef", "aXbcdef", "abcdeYf", "S,a,a,a O,,X, S,bcde,bcde,bcde T,,,Y S,f,f,f"},
	} {
		got, e := merge3.Chunks(rows(x.base), rows(x.ours), rows(x.theirs))
		if e != api.OK || told(got) != x.want {
			t.Errorf("Chunks(%s, %s, %s): %s, %v", x.base, x.ours, x.theirs, told(got), e)
		}
	}
}

func TestMaxLines(t *testing.T) { // P1401, P1402
	long, short := make([]string, 4001), make([]string, 4000)
	for k, l := range [][3][]string{{long, nil, nil}, {nil, long, nil}, {nil, nil, long}} {
		if c, e := merge3.Chunks(l[0], l[1], l[2]); e != api.ErrMany || c != nil {
			t.Errorf("%d: %v", k, e)
		}
	}
	if c, e := merge3.Chunks(short, short, short); e != api.OK || len(c) != 1 {
		t.Error(e)
	}
	big := []byte(strings.Repeat("\n", 4001))
	if b, clean, e := merge3.Merge(nil, big, nil); e != api.ErrMany || b != nil || clean {
		t.Error(e)
	}
}

func TestRender(t *testing.T) { // P1402
	c := func(kind int) api.Chunk {
		return api.Chunk{Kind: kind, Base: []string{"b"}, Ours: []string{"o"}, Theirs: []string{"t"}}
	}
	for k, want := range []string{"b", "o", "t", "o", "<<<<<<<\no\n|||||||\nb\n=======\nt\n>>>>>>>\n", "", ""} {
		x := c(k)
		if k == 6 {
			x.Kind = -1
		}
		if got := merge3.Render(x); string(got) != want {
			t.Errorf("kind %d: %q", x.Kind, got)
		}
	}
	got := merge3.Render(c(0), api.Chunk{Kind: api.CClash, Ours: []string{"x\n", "y"}, Theirs: []string{"z\n"}}, c(2))
	if string(got) != "b<<<<<<<\nx\ny\n|||||||\n=======\nz\n>>>>>>>\nt" {
		t.Errorf("%q", got)
	}
	if got := merge3.Render(api.Chunk{Kind: api.CClash, Base: []string{""}}); string(got) != "<<<<<<<\n|||||||\n=======\n>>>>>>>\n" {
		t.Errorf("%q", got)
	}
	if len(merge3.Render()) != 0 {
		t.Error("chunks of nothing")
	}
}

func TestMerge(t *testing.T) { // P1402
	got, clean, e := merge3.Merge(text("abc"), text("axc"), text("abcd"))
	if string(got) != "a\nx\nc\nd\n" || !clean || e != api.OK {
		t.Errorf("%q, %v, %v", got, clean, e)
	}
	got, clean, e = merge3.Merge(text("a"), text("b"), text("c"))
	if string(got) != "<<<<<<<\nb\n|||||||\na\n=======\nc\n>>>>>>>\n" || clean || e != api.OK {
		t.Errorf("%q, %v, %v", got, clean, e)
	}
	got, clean, _ = merge3.Merge([]byte("a"), []byte("b"), nil)
	if string(got) != "<<<<<<<\nb\n|||||||\na\n=======\n>>>>>>>\n" || clean {
		t.Errorf("%q", got)
	}
	got, clean, _ = merge3.Merge([]byte("a\nb"), []byte("x\na\nb"), []byte("a\nb"))
	if string(got) != "x\na\nb" || !clean {
		t.Errorf("%q", got)
	}
	got, clean, _ = merge3.Merge(nil, nil, nil)
	if len(got) != 0 || !clean {
		t.Errorf("%q", got)
	}
}

func TestMarks(t *testing.T) { // P1403
	for _, s := range []string{"<<<<<<<", "|||||||\n", "a\n=======\nb", "a\n>>>>>>>", "<<<<<<<\n\n"} {
		if !merge3.Marks([]byte(s)) {
			t.Errorf("Marks(%q)", s)
		}
	}
	for _, s := range []string{"", "a", "<<<<<<", "<<<<<<<<", " =======", "======= ", "=======\r\n", "a=======", "\n", "||||||||\n"} {
		if merge3.Marks([]byte(s)) {
			t.Errorf("Marks(%q), though it has none", s)
		}
	}
}

func TestParse(t *testing.T) { // P1403
	marked := func(s string) []byte {
		return []byte(strings.NewReplacer("<", "<<<<<<<\n", "|", "|||||||\n", "=", "=======\n", ">", ">>>>>>>\n", "a", "a\n", "b", "b\n", "c", "c\n").Replace(s))
	}
	for s, want := range map[string]string{
		"":                   "",
		"ab":                 "S,ab,ab,ab",
		"abx":                "S,abx,abx,abx",
		"<|=>":               "C,,,",
		"a<b|a=c>b":          "S,a,a,a C,a,b,c S,b,b,b",
		"<bb|a=c><|=a>":      "C,a,bb,c C,,,a",
		"<b|=>ab<|c=>":       "C,,b, S,ab,ab,ab C,c,,",
		"a<b|b=c>ab<a|c=>ax": "S,a,a,a C,b,b,c S,ab,ab,ab C,c,a, S,ax,ax,ax",
	} {
		got, e := merge3.Parse(marked(s))
		if e != api.OK || told(got) != want {
			t.Errorf("Parse(%s): %s, %v", s, told(got), e)
		}
	}
	for _, s := range []string{"<", ">", "|", "=", "<|=", "<|>", "<=|>", "<|=><", "<<|=>", "<||=>", "|=>", "<|=>>", "a=b", "<a>b|=", "<|=>a|b"} {
		if got, e := merge3.Parse(marked(s)); e != api.ErrMarks || got != nil {
			t.Errorf("Parse(%s): %v", s, e)
		}
	}
	for k, s := range []string{"<|=>", "a<b|c=a>"} {
		b := marked(s)
		if got, e := merge3.Parse(b[:len(b)-1]); e != api.ErrMarks || got != nil {
			t.Errorf("%d: the last mark has no line feed: %v", k, e)
		}
	}
}

func some(r *rand.Rand) string {
	b := make([]byte, r.Intn(8))
	for k := range b {
		b[k] = "abcd"[r.Intn(4)]
	}
	return string(b)
}

func TestLaws(t *testing.T) { // P1401, P1404
	r := rand.New(rand.NewSource(17))
	clashes := 0
	for range 3000 {
		base, ours, theirs := some(r), some(r), some(r)
		l, e := merge3.Chunks(rows(base), rows(ours), rows(theirs))
		if e != api.OK {
			t.Fatal(e)
		}
		checkChunks(t, l, base, ours, theirs)
		other, _ := merge3.Chunks(rows(base), rows(theirs), rows(ours))
		for k := range other {
			other[k].Ours, other[k].Theirs = other[k].Theirs, other[k].Ours
			other[k].Kind = []int{0, 2, 1, 3, 4}[other[k].Kind]
		}
		if !reflect.DeepEqual(l, other) {
			t.Fatalf("%s, %s, %s: %s, changed about %s", base, ours, theirs, told(l), told(other))
		}
		b, clean, _ := merge3.Merge(text(base), text(base), text(theirs))
		if string(b) != string(text(theirs)) || !clean {
			t.Fatalf("%s, %s: ours is as base: %q", base, theirs, b)
		}
		b, clean, _ = merge3.Merge(text(base), text(ours), text(ours))
		if string(b) != string(text(ours)) || !clean {
			t.Fatalf("%s, %s: both are the same: %q", base, ours, b)
		}
		b, clean, _ = merge3.Merge(text(base), text(ours), text(theirs))
		want := slices.DeleteFunc(slices.Clone(l), func(c api.Chunk) bool { return c.Kind != api.CClash })
		read, e := merge3.Parse(b)
		got := slices.DeleteFunc(read, func(c api.Chunk) bool { return c.Kind != api.CClash })
		if e != api.OK || told(got) != told(want) || clean != (len(want) == 0) || merge3.Marks(b) == clean {
			t.Fatalf("%s, %s, %s: %s, not %s", base, ours, theirs, told(got), told(want))
		}
		clashes += len(want)
	}
	if clashes < 1000 {
		t.Error("few clashes:", clashes)
	}
}

// checkChunks asks what each kind means, and that all lines stand in their order.
func checkChunks(t *testing.T, l []api.Chunk, base, ours, theirs string) {
	t.Helper()
	var b, o, th []string
	for k, c := range l {
		b, o, th = append(b, c.Base...), append(o, c.Ours...), append(th, c.Theirs...)
		bo, bt, ot := slices.Equal(c.Base, c.Ours), slices.Equal(c.Base, c.Theirs), slices.Equal(c.Ours, c.Theirs)
		want := api.CClash
		switch {
		case bo && bt:
			want = api.CSame
		case ot:
			want = api.CBoth
		case bt:
			want = api.COurs
		case bo:
			want = api.CTheirs
		}
		twice := k > 0 && (c.Kind == api.CSame) == (l[k-1].Kind == api.CSame)
		if c.Kind != want || twice || len(c.Base)+len(c.Ours)+len(c.Theirs) == 0 {
			t.Fatalf("%s, %s, %s: %s", base, ours, theirs, told(l))
		}
	}
	if !slices.Equal(b, rows(base)) || !slices.Equal(o, rows(ours)) || !slices.Equal(th, rows(theirs)) {
		t.Fatalf("%s, %s, %s: %s", base, ours, theirs, told(l))
	}
}

// Lines that both diffs keep are anchors; no chunk that is not the same on all sides has one.
func TestAnchors(t *testing.T) { // P1401
	r := rand.New(rand.NewSource(18))
	for range 1000 {
		base, ours, theirs := rows(some(r)), rows(some(r)), rows(some(r))
		keeps := func(side []string) []bool {
			e, _ := lines.Diff(base, side)
			var l []bool
			for _, x := range e {
				for range x.N {
					if x.Op != api.Insert {
						l = append(l, x.Op == api.Keep)
					}
				}
			}
			return l
		}
		inOurs, inTheirs := keeps(ours), keeps(theirs)
		l, _ := merge3.Chunks(base, ours, theirs)
		at := 0
		for _, c := range l {
			for range c.Base {
				if c.Kind != api.CSame && inOurs[at] && inTheirs[at] {
					t.Fatalf("%q, %q, %q: %s", base, ours, theirs, told(l))
				}
				at++
			}
		}
	}
}

func TestNothingIsShared(t *testing.T) { // P2
	base, ours, theirs := rows("abcd"), rows("axcd"), rows("abcy")
	l, _ := merge3.Chunks(base, ours, theirs)
	want := fmt.Sprint(told(l))
	for k := range l {
		for _, side := range [][]string{l[k].Base, l[k].Ours, l[k].Theirs} {
			clear(side[:cap(side)])
		}
	}
	if again, _ := merge3.Chunks(base, ours, theirs); told(again) != want {
		t.Error("memory is shared")
	}
	p, _ := merge3.Parse([]byte("a\n"))
	clear(p[0].Base)
	if p[0].Ours[0] != "a\n" || p[0].Theirs[0] != "a\n" {
		t.Error("two sides share memory")
	}
}
