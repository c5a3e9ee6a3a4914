package rename_test

import (
	"fmt"
	"math/rand"
	"slices"
	"strings"
	"testing"

	"selvage/api"
	"selvage/rename"
	"selvage/tree"
)

// rows tells a line for each byte.
func rows(s string) string {
	out := ""
	for _, c := range s {
		out += string(c) + "\n"
	}
	return out
}

func TestScore(t *testing.T) { // P1601, P1603
	for _, x := range []struct {
		a, b string
		want int
	}{
		{"", "", 100},
		{"a", "a", 100},
		{"", "a", 0},
		{"a", "b", 0},
		{"a", "a\n", 0},
		{rows("xy"), rows("xz"), 50},
		{rows("ab"), rows("ba"), 100},
		{rows("aab"), rows("abb"), 66},
		{rows("aaaa"), rows("a"), 40},
		{rows("abc"), rows("abcd"), 85},
		{rows("abc"), rows("abc") + "d", 85},
		{rows("abcdefg"), rows("a"), 25},
		{rows("a") + "b", rows("ab"), 50},
	} {
		if got := rename.Score([]byte(x.a), []byte(x.b)); got != x.want {
			t.Errorf("Score(%q, %q): %d", x.a, x.b, got)
		}
		if got := rename.Score([]byte(x.b), []byte(x.a)); got != x.want {
			t.Errorf("Score(%q, %q): %d", x.b, x.a, got)
		}
	}
}

// files tells those of texts path=bytes.
func files(l ...string) []api.File {
	var out []api.File
	for _, s := range l {
		path, data, _ := strings.Cut(s, "=")
		out = append(out, api.File{Path: path, Kind: api.KFile, Data: []byte(rows(data))})
	}
	slices.SortFunc(out, func(a, b api.File) int { return strings.Compare(a.Path, b.Path) })
	return out
}

func detect(a, b []api.File) string { return told(rename.Detect(tree.Diff(a, b))) }

func told(l []api.Pair) string {
	var out []string
	for _, p := range l {
		out = append(out, fmt.Sprint(p.Old, ">", p.New, ":", p.Score))
	}
	return strings.Join(out, " ")
}

func TestDetect(t *testing.T) { // P1602
	for k, x := range []struct {
		a, b []api.File
		want string
	}{
		{files("a=xy"), files("b=xz"), "a>b:50"},
		{files("a=xyz"), files("b=xwv"), ""},
		{files("a=x"), files("b=x"), "a>b:100"},
		{files("a=x", "b=y"), files("a=y", "b=x"), ""},
		{files("a=x", "b=x"), files("c=x"), "a>c:100"},
		{files("a=x"), files("b=x", "c=x"), "a>b:100"},
		{files("d/a=x"), files("b=x", "c/a=x", "e/a=x"), "d/a>c/a:100"},
		{files("a=x", "b=x"), files("d/b=x", "e/a=x"), "a>e/a:100 b>d/b:100"},
		{files("a=x", "b=x"), files("c=x", "d/b=x"), "a>c:100 b>d/b:100"},
		{files("a=x", "b=x"), files("d/b=x"), "a>d/b:100"},
		{files("a="), files("b="), ""},
		{files("a=x", "k=1"), files("a/b=x", "k=2"), "a>a/b:100"},
		// The greatest score first, then the same last name, then by Old, by New.
		{files("a=wxyz"), files("b=wxqr", "c=wxyr"), "a>c:75"},
		{files("a=wxyz", "b=wxyq"), files("c=wxyz9", "d=wxy"), "a>c:88 b>d:85"},
		{files("a=xy"), files("b=xz", "c/a=xw"), "a>c/a:50"},
		{files("a=xy", "b=xw"), files("d/b=xv"), "b>d/b:50"},
		{files("a=xy", "b=xw"), files("c=xv"), "a>c:50"},
		{files("a=xy"), files("b=xv", "c=xw"), "a>b:50"},
		{files("a=xy", "b=xw"), files("c=xv", "d=xu"), "a>c:50 b>d:50"},
		{files("p/z=abcd", "q=abce"), files("r=abcf", "s/z=abgh"), "p/z>r:75 q>s/z:50"},
	} {
		if got := detect(x.a, x.b); got != x.want {
			t.Errorf("%d: %s, not %s", k, got, x.want)
		}
	}
}

func TestKinds(t *testing.T) { // P1602: just files with at least one byte count
	one := func(path string, kind int, data string) []api.File {
		return []api.File{{Path: path, Kind: kind, Data: []byte(data)}}
	}
	for k, x := range []struct {
		a, b []api.File
		want string
	}{
		{one("a", api.KFile, "x"), one("b", api.KExec, "x"), "a>b:100"},
		{one("a", api.KExec, "x"), one("b", api.KFile, "x"), "a>b:100"},
		{one("a", api.KLink, "x"), one("b", api.KLink, "x"), ""},
		{one("a", api.KFile, "x"), one("b", api.KLink, "x"), ""},
		{one("a", api.KLink, "x"), one("b", api.KFile, "x"), ""},
		{one("a", api.KFile, ""), one("b", api.KFile, ""), ""},
		{one("a", api.KFile, "x"), one("a", api.KExec, "x"), ""},
	} {
		if got := detect(x.a, x.b); got != x.want {
			t.Errorf("%d: %s", k, got)
		}
	}
}

// Of more than 100 without partners just those with the same bytes are pairs.
func TestManyOdd(t *testing.T) { // P1602
	for _, n := range []int{100, 101} {
		for _, m := range []int{100, 101} {
			var a, b []string
			for k := range n {
				a = append(a, fmt.Sprintf("a%03d=%c%c", k, 'A'+k/20, 'a'+k%20))
			}
			for k := range m {
				b = append(b, fmt.Sprintf("b%03d=%c%c0", k, 'A'+k/20, 'a'+k%20))
			}
			a, b = append(a, "same=12"), append(b, "to=12")
			got := rename.Detect(tree.Diff(files(a...), files(b...)))
			want := 101
			if n > 100 || m > 100 {
				want = 1
			}
			if len(got) != want || got[len(got)-1] != (api.Pair{Old: "same", New: "to", Score: 100}) {
				t.Errorf("%d, %d: %d pairs", n, m, len(got))
			}
		}
	}
}

// plain works pairs out as the chapter says, step by step.
func plain(l []api.Change) []api.Pair {
	last := func(p string) string { return p[strings.LastIndex(p, "/")+1:] }
	var gone, come []api.File
	for _, c := range l {
		if c.New.Kind == 0 && len(c.Old.Data) > 0 {
			gone = append(gone, c.Old)
		}
		if c.Old.Kind == 0 && len(c.New.Data) > 0 {
			come = append(come, c.New)
		}
	}
	var out []api.Pair
	has := func(old, new string) bool {
		return slices.ContainsFunc(out, func(p api.Pair) bool { return p.Old == old || p.New == new })
	}
	for _, g := range gone {
		for _, byName := range []bool{true, false} {
			for _, c := range come {
				if !has(g.Path, c.Path) && string(c.Data) == string(g.Data) && (!byName || last(c.Path) == last(g.Path)) {
					out = append(out, api.Pair{Old: g.Path, New: c.Path, Score: 100})
				}
			}
		}
	}
	for score := 100; score >= 50; score-- {
		for _, byName := range []bool{true, false} {
			for _, g := range gone {
				for _, c := range come {
					if !has(g.Path, c.Path) && rename.Score(g.Data, c.Data) == score && (!byName || last(c.Path) == last(g.Path)) {
						out = append(out, api.Pair{Old: g.Path, New: c.Path, Score: score})
					}
				}
			}
		}
	}
	slices.SortFunc(out, func(a, b api.Pair) int { return strings.Compare(a.Old, b.Old) })
	return out
}

func TestDetectAsTold(t *testing.T) { // P1602, P1603
	r := rand.New(rand.NewSource(20))
	pairs := 0
	for range 2000 {
		side := func() []api.File {
			var l []string
			for _, p := range []string{"a", "b", "c/a", "c/b", "d/a", "e"} {
				if r.Intn(2) == 0 {
					data := ""
					for range r.Intn(4) {
						data += string("xyz"[r.Intn(3)])
					}
					l = append(l, p+"="+data)
				}
			}
			return files(l...)
		}
		l := tree.Diff(side(), side())
		got := rename.Detect(l)
		if !slices.Equal(got, plain(l)) {
			t.Fatalf("%v: %s, not %s", l, told(got), told(plain(l)))
		}
		ends := map[string]int{}
		for _, p := range got {
			ends[p.Old]++
			ends[p.New]++
			pairs++
		}
		for p, n := range ends {
			if n > 1 {
				t.Fatalf("%s is in %d pairs", p, n)
			}
		}
	}
	if pairs < 500 {
		t.Error("few pairs:", pairs)
	}
}

func TestNothingIsChanged(t *testing.T) { // P2
	l := tree.Diff(files("a=xy", "b=zz"), files("c=zz", "d=xw"))
	want := fmt.Sprint(l)
	rename.Detect(l)
	rename.Score(l[0].Old.Data, l[1].Old.Data)
	if fmt.Sprint(l) != want {
		t.Error("what was handed in was changed")
	}
}
