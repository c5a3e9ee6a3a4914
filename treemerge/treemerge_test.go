package treemerge_test

import (
	"bytes"
	"fmt"
	"math/rand"
	"slices"
	"strings"
	"testing"

	"selvage/api"
	"selvage/rename"
	"selvage/tree"
	"selvage/treemerge"
)

// files reads those of a text: path=bytes, a line for each byte of them but `-` for none; path*= is KExec, path@= is KLink.
func files(s string) []api.File {
	var l []api.File
	for _, x := range strings.Fields(s) {
		path, data, _ := strings.Cut(x, "=")
		f := api.File{Kind: api.KFile}
		if strings.HasSuffix(path, "*") {
			f.Kind = api.KExec
		}
		if strings.HasSuffix(path, "@") {
			f.Kind = api.KLink
		}
		f.Path = strings.TrimRight(path, "*@")
		for _, c := range strings.Trim(data, "-") {
			f.Data = append(f.Data, byte(c), '\n')
		}
		l = append(l, f)
	}
	slices.SortFunc(l, func(a, b api.File) int { return strings.Compare(a.Path, b.Path) })
	return l
}

// told tells files as files reads them; a text with marks is `!`.
func told(l []api.File) string {
	var out []string
	for _, f := range l {
		data := strings.ReplaceAll(string(f.Data), "\n", "")
		if strings.Contains(data, "<<<<<<<") {
			data = "!"
		}
		if data == "" {
			data = "-"
		}
		out = append(out, f.Path+[]string{"", "", "*", "@"}[f.Kind]+"="+data)
	}
	return strings.Join(out, " ")
}

func toldClashes(l []api.Clash) string {
	var out []string
	for _, c := range l {
		out = append(out, fmt.Sprint(c.Path, ":", c.Why))
	}
	return strings.Join(out, " ")
}

func TestMerge(t *testing.T) { // P1701, P1702
	for _, x := range []struct{ base, ours, theirs, want, clashes string }{
		{"", "", "", "", ""},
		// the examples
		{"a=xyz", "b=xyz", "a=xyw", "b=xyw", ""},
		{"a=xyz", "", "a=xyw", "a=xyw", "a:2"},
		// a file of base: 1, 2
		{"a=x b=y", "b=y", "b=y", "b=y", ""},
		{"a=x", "a=x", "", "", ""},
		{"a=x", "", "a=x", "", ""},
		{"a=x", "a*=x", "", "a*=x", "a:2"},
		{"a=x", "", "b=x", "b=x", "b:2"},
		{"a=xyz", "b=xyw", "", "b=xyw", "b:2"},
		// 3
		{"a=xyz", "b=xyz", "c=xyw", "b=xyz c=xyw", "a:4"},
		{"a=xyz", "b=xyz", "b=xyw", "b=xyw", ""},
		// 4: kinds
		{"a=x", "a*=x", "a=x", "a*=x", ""},
		{"a=x", "a=x", "a*=x", "a*=x", ""},
		{"a=x", "a*=x", "a*=x", "a*=x", ""},
		{"a=x", "a*=x", "a@=x", "a*=x", "a:3"},
		{"a=x", "a@=x", "a*=x", "a@=x", "a:3"},
		{"a@=x", "a*=x", "a=x", "a*=x", "a:3"},
		{"a=x", "a*=x", "a=y", "a*=y", ""},
		{"a=xyz", "b=xyz", "a*=xyz", "b*=xyz", ""},
		// 4: bytes
		{"a=x", "a=y", "a=x", "a=y", ""},
		{"a=x", "a=x", "a=y", "a=y", ""},
		{"a=x", "a=y", "a=y", "a=y", ""},
		{"a=x", "a=y", "a=z", "a=!", "a:1"},
		{"a=xyz", "a=1yz", "a=xy2", "a=1y2", ""},
		{"a*=xyz", "a=1yz", "a*=xy2", "a=1y2", ""},
		{"a@=xyz", "a@=1yz", "a@=xy2", "a@=1yz", "a:1"},
		{"a@=xyz", "a=1yz", "a=xy2", "a=1yz", "a:1"},
		{"a=xyz", "a@=1yz", "a=xy2", "a@=1yz", "a:1"},
		{"a=xyz", "a=1yz", "a@=xy2", "a@=1yz", "a:1"},
		{"a=xyz", "a*=1yz", "a@=xy2", "a*=1yz", "a:1 a:3"},
		{"a=xyz", "b=xy1", "a=xy2", "b=!", "b:1"},
		{"a=x", "a=-", "a=x", "a=-", ""},
		{"a=x", "a=-", "a=y", "a=!", "a:1"},
		// new files
		{"", "a=x", "b=y", "a=x b=y", ""},
		{"", "a=x", "a=x", "a=x", ""},
		{"", "a=x", "a=y", "a=!", "a:1"},
		{"", "a=x", "a=-", "a=x", ""},
		{"", "a=-", "a=y", "a=y", ""},
		{"", "a=x", "a*=x", "a=x", "a:3"},
		{"", "a*=-", "a=y", "a*=y", "a:3"},
		{"", "a@=x", "a@=y", "a@=x", "a:1"},
		{"", "a=x", "a@=y", "a=x", "a:1 a:3"},
		{"", "a=x", "a*=y", "a=!", "a:1 a:3"},
		// places
		{"a=xyz", "b=xyz", "a=xyz b=new", "b=xyz b~=new", "b:5"},
		{"a=xyz", "b=xyz b~=1", "a=xyz b=new", "b=xyz b~=1 b~~=new", "b:5"},
		{"a=xyz c=123", "b=xyz c=123", "a=xyz b=123", "b=xyz b~=123", "b:5"},
		{"a=xyz", "a=xyz b=new", "b=xyz", "b=xyz b~=new", "b:5"},
		{"a=123 d=xyz", "b=123 d=xyz", "a=123 b=xyz b~=q", "b=123 b~=q b~~=xyz", "b:5"},
		{"a=xyz c=456", "b=xyz c=456", "c=456 d=xyz b=new", "b=xyz b~=new c=456 d=xyz", "a:4 b:5"},
		{"d=1 e=2", "d=1 e/f=2", "d/x=9 e=2", "d/x=9 e/f=2", ""},
		// directories
		{"", "a=x", "a/b=y", "a/b=y a~=x", "a:6"},
		{"", "a/b/c=x", "a=y a~=z", "a/b/c=x a~=z a~~=y", "a:6"},
		{"", "a=x", "a/b=y a~/q=z", "a/b=y a~/q=z a~~=x", "a:6"},
		{"", "a=x a~=1", "a/b=y a~/c=2", "a/b=y a~/c=2 a~~=x a~~~=1", "a:6 a~:6"},
		{"d=1", "", "d/x=9", "d/x=9", ""},
		{"d=1", "d=2", "d/x=9", "d/x=9 d~=2", "d:2 d:6"},
		{"a=xyz", "b=xyz", "a=xyz b/c=1 b~=2", "b/c=1 b~=2 b~~=xyz", "b:6"},
		{"a=xyz", "b=xyz", "a=xyz b=1", "b=xyz b~=1", "b:5"},
	} {
		got, clashes, e := treemerge.Merge(files(x.base), files(x.ours), files(x.theirs))
		if e != api.OK || told(got) != x.want || toldClashes(clashes) != x.clashes {
			t.Errorf("%s | %s | %s: %s (%s), %v, not %s (%s)", x.base, x.ours, x.theirs, told(got), toldClashes(clashes), e, x.want, x.clashes)
		}
	}
}

// What goes to another place because of another thing, and what then stands where a directory is.
func TestPlacesAndDirectories(t *testing.T) { // P1701
	got, clashes, e := treemerge.Merge(files("a=xyz"), files("b=xyz"), files("a=xyz b=new b~/k=1"))
	if e != api.OK || told(got) != "b=xyz b~/k=1 b~~=new" || toldClashes(clashes) != "b:5 b~:6" {
		t.Errorf("%s (%s), %v", told(got), toldClashes(clashes), e)
	}
}

func TestMergedText(t *testing.T) { // P1701
	got, _, _ := treemerge.Merge(files("a=x"), files("a=y"), files("a=z"))
	if string(got[0].Data) != "<<<<<<<\ny\n|||||||\nx\n=======\nz\n>>>>>>>\n" {
		t.Errorf("%q", got[0].Data)
	}
	got, _, _ = treemerge.Merge(nil, files("a=y"), files("a=z"))
	if string(got[0].Data) != "<<<<<<<\ny\n|||||||\n=======\nz\n>>>>>>>\n" {
		t.Errorf("%q", got[0].Data)
	}
}

func TestErrors(t *testing.T) { // P1701, P1702
	bad := []api.File{{Path: "a", Kind: 9}}
	order := files("a=x a=x")
	for k, l := range [][3][]api.File{{bad, order, order}, {nil, bad, order}, {nil, nil, bad}} {
		if f, c, e := treemerge.Merge(l[0], l[1], l[2]); e != api.ErrKind || f != nil || c != nil {
			t.Errorf("%d: %v", k, e)
		}
	}
	long := bytes.Repeat([]byte("\n"), 4001)[:4001:4001]
	one := []api.File{{Path: "a", Kind: api.KFile, Data: long}}
	two := []api.File{{Path: "a", Kind: api.KFile, Data: append(long, '\n')}}
	three := []api.File{{Path: "a", Kind: api.KFile, Data: append(long, 'x')}}
	if f, c, e := treemerge.Merge(one, two, three); e != api.ErrMany || f != nil || c != nil {
		t.Error(e)
	}
	if _, _, e := treemerge.Merge(nil, two, three); e != api.ErrMany {
		t.Error(e)
	}
	// too many files, and names that get too long, or files
	var many, more []api.File
	for k := range 400 {
		many = append(many, api.File{Path: fmt.Sprintf("a/%03d", k), Kind: 1}, api.File{Path: fmt.Sprintf("b/%03d", k), Kind: 1})
		more = append(more, api.File{Path: fmt.Sprintf("c/%03d", k), Kind: 1})
	}
	slices.SortFunc(many, func(a, b api.File) int { return strings.Compare(a.Path, b.Path) })
	if f, c, e := treemerge.Merge(nil, many, more); e != api.ErrMany || f != nil || c != nil {
		t.Error(e)
	}
	n40 := strings.Repeat("n", 40)
	if f, c, e := treemerge.Merge(nil, files(n40+"=x"), files(n40+"/a=y")); e != api.ErrName || f != nil || c != nil {
		t.Error(e)
	}
	big := func(s string) []api.File {
		return []api.File{{Path: "a", Kind: api.KFile, Data: bytes.Repeat([]byte(s), 40000)}}
	}
	if f, c, e := treemerge.Merge(nil, big("x"), big("y")); e != api.ErrLong || f != nil || c != nil {
		t.Error(e)
	}
	// ErrMany of a text is answered ahead of what is wrong with places
	both := func(l []api.File, s string) []api.File { return append(slices.Clone(l), files(s)...) }
	if _, _, e := treemerge.Merge(one, both(two, n40+"=x"), both(three, n40+"/a=y")); e != api.ErrMany {
		t.Error(e)
	}
}

// some tells a random tree, like another one.
func some(r *rand.Rand, like []api.File) []api.File {
	paths := []string{"a", "a~", "a/x", "b", "b/y", "c", "c~", "d/e", "d/e/f"}
	var l []api.File
	for _, f := range like {
		switch r.Intn(6) {
		case 0:
			continue
		case 1:
			f.Path = paths[r.Intn(len(paths))]
		case 2:
			f.Kind = 1 + r.Intn(3)
		case 3, 4:
			f.Data = slices.Clone(f.Data)
			if n := len(f.Data) / 2; n > 0 {
				f.Data[2*r.Intn(n)] = "pqr"[r.Intn(3)]
			}
		}
		l = append(l, f)
	}
	for range r.Intn(3) {
		f := api.File{Path: paths[r.Intn(len(paths))], Kind: 1 + r.Intn(4)/3}
		for range r.Intn(5) {
			f.Data = append(f.Data, "pqrst"[r.Intn(5)], '\n')
		}
		l = append(l, f)
	}
	r.Shuffle(len(l), func(i, j int) { l[i], l[j] = l[j], l[i] })
	var out []api.File // what stands beside one another
	for _, f := range l {
		if !slices.ContainsFunc(out, func(g api.File) bool {
			return f.Path == g.Path || strings.HasPrefix(f.Path, g.Path+"/") || strings.HasPrefix(g.Path, f.Path+"/")
		}) {
			out = append(out, f)
		}
	}
	slices.SortFunc(out, func(a, b api.File) int { return strings.Compare(a.Path, b.Path) })
	return out
}

func at(l []api.File, path string) string {
	for _, f := range l {
		if f.Path == path {
			return fmt.Sprint(f)
		}
	}
	return ""
}

// untouched tells whether no path of these trees is above or below another one that is p, in another tree.
func untouched(p string, l ...[]api.File) bool {
	for _, files := range l {
		for _, f := range files {
			if strings.HasPrefix(f.Path, p+"/") || strings.HasPrefix(p, f.Path+"/") {
				return false
			}
		}
	}
	return !strings.HasSuffix(p, "~")
}

func TestLaws(t *testing.T) { // P1703
	r := rand.New(rand.NewSource(21))
	clean, alone := 0, 0
	for range 5000 {
		base := some(r, some(r, nil))
		ours, theirs := some(r, base), some(r, base)
		name := told(base) + " | " + told(ours) + " | " + told(theirs)
		got, clashes, e := treemerge.Merge(base, ours, theirs)
		if e != api.OK || tree.Check(got) != api.OK {
			t.Fatal(name, e)
		}
		other, otherClashes, _ := treemerge.Merge(base, theirs, ours)
		if !slices.Equal(clashes, otherClashes) {
			t.Fatalf("%s: %v, changed about %v", name, clashes, otherClashes)
		}
		if len(clashes) == 0 {
			clean++
			if told(got) != told(other) {
				t.Fatalf("%s: %s, changed about %s", name, told(got), told(other))
			}
		}
		if l, c, _ := treemerge.Merge(base, base, theirs); told(l) != told(theirs) || len(c) != 0 {
			t.Fatalf("%s: ours is as base: %s, %v", name, told(l), c)
		}
		if l, c, _ := treemerge.Merge(base, ours, ours); told(l) != told(ours) || len(c) != 0 {
			t.Fatalf("%s: both are the same: %s, %v", name, told(l), c)
		}
		if len(rename.Detect(tree.Diff(base, ours)))+len(rename.Detect(tree.Diff(base, theirs))) > 0 {
			continue
		}
		for _, p := range []string{"a", "a/x", "b", "b/y", "c", "d/e"} {
			b, o, th := at(base, p), at(ours, p), at(theirs, p)
			clashing := slices.ContainsFunc(clashes, func(c api.Clash) bool { return c.Path == p })
			if b == o == (b == th) || clashing || !untouched(p, base, ours, theirs) {
				continue
			}
			alone++
			want := o
			if b == o {
				want = th
			}
			if at(got, p) != want {
				t.Fatalf("%s: %s is %s, not %s", name, p, at(got, p), want)
			}
		}
	}
	if clean < 500 || alone < 500 {
		t.Error("few:", clean, alone)
	}
}

func TestNothingIsShared(t *testing.T) { // P2
	base, ours, theirs := files("a=xyz c=q"), files("b=xyz c=q n=1"), files("a=xyw c=q")
	want := told(base) + told(ours) + told(theirs)
	got, _, _ := treemerge.Merge(base, ours, theirs)
	for _, f := range got {
		clear(f.Data)
	}
	if told(base)+told(ours)+told(theirs) != want {
		t.Error("memory is shared")
	}
}
