package repo_test

import (
	"fmt"
	"slices"
	"strings"
	"testing"

	"selvage/api"
	"selvage/codec"
	"selvage/loose"
	"selvage/refs"
	"selvage/repo"
	"selvage/simfs"
	"selvage/store"
)

func TestOpen(t *testing.T) { // P2101
	f, _ := simfs.New(1<<20, 1<<20)
	f.Write("p/"+strings.Repeat("0", 64), nil)
	f.Write("journal", nil)
	if r, e := repo.Open(f); e != api.ErrSum || r != nil {
		t.Error(e)
	}
	f.Remove("p/" + strings.Repeat("0", 64))
	if r, e := repo.Open(f); e != api.ErrBad || r != nil {
		t.Error(e)
	}
	f.Remove("journal")
	r, e := repo.Open(f)
	if e != api.OK || !refs.Same(r.State(), api.State{}) {
		t.Error(e)
	}
	if l, e := r.Objects(); e != api.OK || len(l) != 0 {
		t.Error(l, e)
	}
}

func TestReading(t *testing.T) { // P2101
	b := newBox(t)
	i := b.commit("a=x d/b*=y")
	c := b.read(i)
	if c.Author != "me" || c.Time != 10 || c.Message != "a=x d/b*=y" || len(c.Parents) != 0 || b.tree(i) != "a=x d/b*=y" {
		t.Errorf("%+v", c)
	}
	l, e := b.r.Objects()
	if e != api.OK || len(l) != 5 || !slices.Contains(l, i) || !slices.Contains(l, c.Tree) {
		t.Error(l, e)
	}
	o, e := b.r.Object(i)
	if j, _ := codec.Id(o); e != api.OK || j != i {
		t.Error(e)
	}
	if o, e := b.r.Object(none); e != api.ErrNone || o.Body != nil {
		t.Error(e)
	}
	for want, i := range map[api.Errno]api.Id{api.ErrKind: c.Tree, api.ErrNone: {1}} {
		if c, e := b.r.Commit(i); e != want || !codec.SameCommit(c, api.Commit{}) {
			t.Error(e)
		}
		if l, e := b.r.Tree(i); e != want || l != nil {
			t.Error(e)
		}
	}
	b.f.Write(loose.Path(c.Tree), []byte("x"))
	if l, e := b.r.Tree(i); e != api.ErrSum || l != nil {
		t.Error(e)
	}
}

func TestKindAndHead(t *testing.T) { // P2102
	b := empty(t)
	for _, k := range []int{0, -1, 16, 1 << 40} {
		b.no(api.ErrKind, api.Cmd{Kind: k})
	}
	for k := api.CCommit; k <= api.CReset; k++ {
		b.no(api.ErrNone, api.Cmd{Kind: k, Author: strings.Repeat("x", 1001)})
	}
	b.ok(api.Cmd{Kind: api.CCollect})
	b.ok(api.Cmd{Kind: api.CRepack})
	b.ok(api.Cmd{Kind: api.CRecover})
}

func TestInit(t *testing.T) { // P2102
	b := empty(t)
	b.no(api.ErrName, api.Cmd{Kind: api.CInit, Name: "/"})
	b.no(api.ErrName, api.Cmd{Kind: api.CInit})
	if a := b.ok(api.Cmd{Kind: api.CInit, Name: "a/b"}); a.Id != none || b.r.State().Head != "a/b" || len(b.r.State().Refs) != 0 {
		t.Error(a)
	}
	b.no(api.ErrIs, api.Cmd{Kind: api.CInit, Name: "/"})
}

func TestCommit(t *testing.T) { // P2102
	b := newBox(t)
	long := strings.Repeat("x", 1001)
	bad := []api.File{{Path: "/", Kind: 1}}
	b.no(api.ErrLong, api.Cmd{Kind: api.CCommit, Author: long, Files: bad})
	b.no(api.ErrLong, api.Cmd{Kind: api.CCommit, Text: long})
	b.no(api.ErrName, api.Cmd{Kind: api.CCommit, Files: bad})
	first := b.ok(api.Cmd{Kind: api.CCommit, Author: long[1:], Text: long[1:], Time: -7}).Id
	b.stands("")
	if c := b.read(first); c.Time != -7 || c.Author != long[1:] || c.Message != long[1:] {
		t.Error(c)
	}
	b.no(api.ErrSame, api.Cmd{Kind: api.CCommit, Author: "other"})
	second := b.commit("a=x")
	b.stands("a=x", first)
	b.no(api.ErrSame, commit("a=x"))
	third := b.commit("")
	b.stands("", second)
	if b.at("main") != third || b.log("main") != "commit commit commit" {
		t.Error(b.log("main"))
	}
	l := b.r.State().Logs[0].Lines
	if l[0].Old != none || l[0].New != first || l[2].Old != second || l[2].New != third {
		t.Error(l)
	}
}

func TestCommitUnderANameThatDoesNotFit(t *testing.T) { // P2102: refs.Check is asked ahead
	b := newBox(t)
	i := b.commit("a=x")
	b.ok(api.Cmd{Kind: api.CDelete, Name: func() string { b.branch("b"); return "b" }()})
	other := empty(t)
	other.ok(api.Cmd{Kind: api.CInit, Name: "x/y"})
	s, _ := store.Open(other.f)
	for _, j := range func() []api.Id { l, _ := b.r.Objects(); return l }() {
		o, _ := b.r.Object(j)
		s.Put(o)
	}
	other.ok(api.Cmd{Kind: api.CBranch, Name: "x", At: i})
	other.no(api.ErrDir, commit("new=1"))
	for k := range 199 {
		other.ok(api.Cmd{Kind: api.CBranch, Name: fmt.Sprint("r", k), At: i})
	}
	other.no(api.ErrMany, commit("new=1"))
	other.no(api.ErrMany, api.Cmd{Kind: api.CBranch, Name: "more", At: i})
}

func TestBranchDeleteSwitch(t *testing.T) { // P2102
	b := newBox(t)
	b.no(api.ErrName, api.Cmd{Kind: api.CBranch, Name: "."})
	b.no(api.ErrNone, api.Cmd{Kind: api.CBranch, Name: "b"})
	b.no(api.ErrNone, api.Cmd{Kind: api.CSwitch, Name: "main"})
	b.no(api.ErrNone, api.Cmd{Kind: api.CDelete, Name: "main"})
	first := b.commit("a=x")
	second := b.commit("a=y")
	if a := b.ok(api.Cmd{Kind: api.CBranch, Name: "b"}); a.Id != second || b.at("b") != second {
		t.Error(a)
	}
	if a := b.ok(api.Cmd{Kind: api.CBranch, Name: "c", At: first}); a.Id != first || b.at("c") != first || b.log("c") != "branch" {
		t.Error(a)
	}
	b.no(api.ErrIs, api.Cmd{Kind: api.CBranch, Name: "b", At: api.Id{1}})
	b.no(api.ErrNone, api.Cmd{Kind: api.CBranch, Name: "d", At: api.Id{1}})
	b.no(api.ErrKind, api.Cmd{Kind: api.CBranch, Name: "d", At: b.read(first).Tree})
	b.no(api.ErrDir, api.Cmd{Kind: api.CBranch, Name: "b/c"})
	b.no(api.ErrNone, api.Cmd{Kind: api.CSwitch, Name: "d"})
	b.no(api.ErrSame, api.Cmd{Kind: api.CSwitch, Name: "main"})
	if a := b.ok(api.Cmd{Kind: api.CSwitch, Name: "c"}); a.Id != first || b.r.State().Head != "c" {
		t.Error(a)
	}
	b.no(api.ErrNone, api.Cmd{Kind: api.CDelete, Name: "d"})
	b.no(api.ErrArg, api.Cmd{Kind: api.CDelete, Name: "c"})
	if a := b.ok(api.Cmd{Kind: api.CDelete, Name: "main"}); a.Id != none || b.at("main") != none || b.log("main") != "none" {
		t.Error(a)
	}
}

func TestReset(t *testing.T) { // P2102
	b := newBox(t)
	b.no(api.ErrOld, api.Cmd{Kind: api.CReset, Old: api.Id{1}})
	b.no(api.ErrNone, api.Cmd{Kind: api.CReset})
	first := b.commit("a=x")
	second := b.commit("a=y")
	b.no(api.ErrOld, api.Cmd{Kind: api.CReset, Old: first, At: api.Id{1}})
	b.no(api.ErrNone, api.Cmd{Kind: api.CReset, Old: second, At: api.Id{1}})
	b.no(api.ErrKind, api.Cmd{Kind: api.CReset, Old: second, At: b.read(first).Tree})
	b.no(api.ErrSame, api.Cmd{Kind: api.CReset, Old: second, At: second})
	if a := b.ok(api.Cmd{Kind: api.CReset, Old: second, At: first}); a.Id != first || b.at("main") != first || b.log("main") != "commit commit reset" {
		t.Error(a)
	}
	b.branch("b")
	b.switchTo("b")
	b.ok(api.Cmd{Kind: api.CDelete, Name: "main"})
	b.whole()
}

func merge(name, resolved string) api.Cmd {
	return api.Cmd{Kind: api.CMerge, Name: name, Author: "you", Time: 9, Text: "merged", Files: files(resolved)}
}

// forked tells a box of main and b, each with a commit of its own.
func forked(t *testing.T, base, ours, theirs string) *box {
	t.Helper()
	b := newBox(t)
	b.commit(base)
	b.branch("b")
	b.switchTo("b")
	b.commit(theirs)
	b.switchTo("main")
	b.commit(ours)
	return b
}

func TestTheExample(t *testing.T) {
	b := newBox(t)
	b.commit("a=x")
	b.branch("b")
	i := b.commit("a=y")
	b.switchTo("b")
	if a := b.ok(merge("main", "")); a.Id != i || b.at("b") != i || b.log("b") != "branch merge" {
		t.Error(a)
	}
}

func TestMerge(t *testing.T) { // P2102
	b := forked(t, "f=abcdef", "f=Xbcdef", "f=abcdeY n=1")
	h, o := b.at("main"), b.at("b")
	long := merge("none", "")
	long.Author = strings.Repeat("x", 1001)
	b.no(api.ErrLong, long)
	long = merge("b", "")
	long.Text = strings.Repeat("x", 1001)
	b.no(api.ErrLong, long)
	b.no(api.ErrNone, merge("none", ""))
	b.no(api.ErrSame, merge("main", "x=y"))
	b.no(api.ErrArg, merge("b", "x=y"))
	a := b.ok(merge("b", ""))
	b.stands("f=XbcdeY n=1", h, o)
	if c := b.read(a.Id); c.Author != "you" || c.Time != 9 || c.Message != "merged" || a.Id != b.at("main") || a.N != 0 {
		t.Error(c)
	}
	if b.log("main") != "commit commit merge" {
		t.Error(b.log("main"))
	}
	b.no(api.ErrSame, merge("b", ""))
	b.switchTo("b")
	b.no(api.ErrArg, merge("main", "x=y"))
	if f := b.ok(merge("main", "")); f.Id != a.Id || b.at("b") != a.Id {
		t.Error(f)
	}
}

func TestMergeWithoutBase(t *testing.T) { // P2102
	b := newBox(t)
	b.commit("a=x")
	i := b.at("main")
	other := empty(t)
	other.ok(api.Cmd{Kind: api.CInit, Name: "o"})
	j := other.commit("z=9")
	s, _ := store.Open(b.f)
	l, _ := other.r.Objects()
	for _, k := range l {
		o, _ := other.r.Object(k)
		s.Put(o)
	}
	b.ok(api.Cmd{Kind: api.CBranch, Name: "other", At: j})
	b.no(api.ErrNoBase, merge("other", ""))
	b.no(api.ErrNoBase, merge("other", "x=y"))
	if b.at("main") != i {
		t.Error("main moved")
	}
	// A head without a commit goes to where the other one stands.
	f := empty(t)
	f.ok(api.Cmd{Kind: api.CInit, Name: "new"})
	s, _ = store.Open(f.f)
	for _, k := range l {
		o, _ := other.r.Object(k)
		s.Put(o)
	}
	f.ok(api.Cmd{Kind: api.CBranch, Name: "o", At: j})
	f.no(api.ErrArg, merge("o", "x=y"))
	if a := f.ok(merge("o", "")); a.Id != j || f.at("new") != j || f.log("new") != "merge" {
		t.Error(a)
	}
}

func TestMergeClashes(t *testing.T) { // P2102: clashes and their resolutions
	start := func() *box {
		return forked(t, "c=abc d=x k=1 l@=x", "c=aXc d=y k*=1 l@=y", "c=aYc k@=1 l@=z")
	}
	b := start()
	all := "c:1 d:2 k:3 l:1"
	s, ops := b.r.State(), b.f.Ops()
	if a := b.clash(all, merge("b", "")); a.Id != none || a.N != 0 {
		t.Error(a)
	}
	b.clash("d:2 k:3", merge("b", "c=Q l=W"))
	if !refs.Same(s, b.r.State()) || b.f.Ops() != ops {
		t.Error("a merge that clashed changed something")
	}
	with := func(l ...api.File) api.Cmd {
		c := merge("b", "")
		c.Files = l
		return c
	}
	marks := []byte("a\n=======")
	b.no(api.ErrArg, with(api.File{Path: "a", Kind: 9}))
	b.no(api.ErrArg, with(api.File{Path: "c", Kind: 1}, api.File{Path: "x", Kind: 1}))
	b.no(api.ErrOrder, with(api.File{Path: "d", Kind: 1}, api.File{Path: "c", Kind: 9}))
	b.no(api.ErrOrder, with(api.File{Path: "c", Kind: 1}, api.File{Path: "c", Kind: 1}))
	b.no(api.ErrArg, with(api.File{Path: "c", Data: []byte("x")}))
	b.no(api.ErrKind, with(api.File{Path: "c", Kind: api.KTree, Data: make([]byte, 65537)}))
	b.no(api.ErrKind, with(api.File{Path: "c", Kind: -1}))
	b.no(api.ErrLong, with(api.File{Path: "c", Kind: 1, Data: append(make([]byte, 65537), "\n======="...)}))
	b.no(api.ErrMarks, with(api.File{Path: "c", Kind: 1, Data: marks}))
	b.no(api.ErrMarks, with(api.File{Path: "c", Kind: 2, Data: marks}))
	b.clash("d:2 k:3 l:1", with(api.File{Path: "c", Kind: 3, Data: marks}))
	h, o := b.at("main"), b.at("b")
	c := merge("b", "c=aZc l*=W")
	c.Files = append(c.Files, api.File{Path: "d"}, api.File{Path: "k", Kind: 3, Data: marks})
	slices.SortFunc(c.Files, func(a, b api.File) int { return strings.Compare(a.Path, b.Path) })
	b.ok(c)
	b.stands("c=aZc k@=a======= l*=W", h, o)
	if m := b.r.State().Mem; len(m) != 1 || string(m[0].Data) != "a\nZ\nc\n" {
		t.Error(m)
	}
}

func TestResolutionsThatMakeNoTree(t *testing.T) { // P2102: what stands then is asked
	b := forked(t, "a=xyz q=1", "b=xyz q=1", "c=xyz q=1 a/d=2")
	b.clash("a:4", merge("b", ""))
	b.no(api.ErrDir, merge("b", "a=1"))
	c := merge("b", "")
	c.Files = []api.File{{Path: "a"}}
	b.ok(c)
	b.stands("a/d=2 b=xyz c=xyz q=1", b.read(b.at("main")).Parents...)
	if len(b.r.State().Mem) != 0 {
		t.Error("a clash of another kind was learned")
	}
	b = forked(t, "a=xyz", "b=xyz", "c=xyz")
	b.ok(merge("b", "a=new"))
	b.stands("a=new b=xyz c=xyz", b.read(b.at("main")).Parents...)
}

// What is known resolves itself.
func TestMemory(t *testing.T) { // P2102
	b := forked(t, "c=abc", "c=aXc", "c=aYc")
	b.clash("c:1", merge("b", ""))
	b.ok(merge("b", "c=aZc"))
	mem := b.r.State().Mem
	if len(mem) != 1 || string(mem[0].Data) != "a\nZ\nc\n" {
		t.Fatal(mem)
	}
	// the same conflict, from the other side
	b.switchTo("b")
	b.ok(api.Cmd{Kind: api.CBranch, Name: "again", At: b.read(b.at("main")).Parents[0]})
	b.no(api.ErrArg, merge("again", "c=other"))
	i := b.ok(merge("again", "")).Id
	if b.tree(i) != "c=aZc" || !refs.Same(api.State{Mem: b.r.State().Mem}, api.State{Mem: mem}) {
		t.Error(b.tree(i))
	}
	b.open()
	if len(b.r.State().Mem) != 1 {
		t.Error("the memory is lost")
	}
}

// A known conflict at whose path another clash is is none that resolves itself; what is made of it then is learned anew.
func TestMemoryBesideAnotherClash(t *testing.T) { // P2102
	b := forked(t, "c=abc", "c=aXc", "c=aYc")
	b.ok(merge("b", "c=aZc"))
	b.ok(api.Cmd{Kind: api.CBranch, Name: "m", At: b.read(b.at("main")).Parents[0]})
	base := b.read(b.at("m")).Parents[0]
	b.ok(api.Cmd{Kind: api.CBranch, Name: "x", At: base})
	b.ok(api.Cmd{Kind: api.CBranch, Name: "y", At: base})
	b.switchTo("x")
	b.commit("c*=aXc")
	b.switchTo("y")
	b.commit("c@=aYc")
	b.clash("c:1 c:3", merge("x", ""))
	b.switchTo("x")
	b.clash("c:1 c:3", merge("y", "")) // a link clashes without marks
	b.ok(merge("y", "c=q"))
	if m := b.r.State().Mem; len(m) != 1 || string(m[0].Data) != "a\nZ\nc\n" {
		t.Error(m)
	}
	// new files of two kinds, with marks
	n := newBox(t)
	n.commit("z=1")
	n.branch("b")
	n.commit("z=1 n=X")
	n.switchTo("b")
	n.commit("z=1 n*=Y")
	n.clash("n:1 n:3", merge("main", ""))
	n.ok(merge("main", "n=R"))
	if m := n.r.State().Mem; len(m) != 1 || string(m[0].Data) != "R\n" {
		t.Fatal(m)
	}
	n.ok(api.Cmd{Kind: api.CReset, Old: n.at("b"), At: n.read(n.at("b")).Parents[0]})
	n.clash("n:1 n:3", merge("main", ""))
	n.ok(merge("main", "n=S"))
	if m := n.r.State().Mem; len(m) != 1 || string(m[0].Data) != "S\n" {
		t.Fatal(m)
	}
}

func TestMemoryIsFull(t *testing.T) { // P2102: as long as the memory has room
	text := func(side string, n int) string {
		var l []string
		for k := range n {
			l = append(l, fmt.Sprintf("f%03d=%c%c%s", k, 'A'+k/20, 'a'+k%20, side))
		}
		return strings.Join(l, " ")
	}
	b := forked(t, text("", 499), text("X", 499), text("Y", 499))
	b.ok(merge("b", text("Z", 499)))
	if n := len(b.r.State().Mem); n != 499 {
		t.Fatal(n)
	}
	last := func() string { // what was made of the conflict that took the last place
		for _, m := range b.r.State().Mem {
			if m.Data[len(m.Data)-2] != 'Z' {
				return strings.ReplaceAll(string(m.Data), "\n", "")
			}
		}
		return ""
	}
	base := b.commit("g=1")
	b.ok(api.Cmd{Kind: api.CBranch, Name: "c", At: base})
	b.commit("g=1 h=2X i=2X j=1X k=3")
	b.switchTo("c")
	theirs := b.commit("g=1 h=2Y i=2Y j=1Y k*=4")
	b.clash("h:1 i:1 j:1 k:1 k:3", merge("main", ""))
	b.ok(merge("main", "h=2V i=2W j=1U k=5")) // one place, for both that are alike
	if n := len(b.r.State().Mem); n != 500 || last() != "2W" {
		t.Fatal(n, last())
	}
	b.ok(api.Cmd{Kind: api.CReset, Old: b.at("c"), At: theirs})
	b.clash("j:1 k:1 k:3", merge("main", ""))
	b.ok(merge("main", "j=1Q k=6"))
	if n := len(b.r.State().Mem); n != 500 || last() != "2W" {
		t.Fatal(n, last())
	}
	// known ones that do not resolve themselves are learned anew
	b.ok(api.Cmd{Kind: api.CReset, Old: b.at("c"), At: base})
	b.commit("g=1 h*=2Y")
	b.clash("h:1 h:3", merge("main", ""))
	b.ok(merge("main", "h=2S"))
	if n := len(b.r.State().Mem); n != 500 || last() != "2S" {
		t.Fatal(n, last())
	}
}

// Just clashes of contents, and just what files made of them, are learned.
func TestWhatIsNotLearned(t *testing.T) { // P2102
	for k, x := range []api.File{{Path: "c", Kind: api.KLink, Data: []byte("x")}, {Path: "c"}} {
		b := forked(t, "c=abc d=1", "c=aXc d=1", "c=aYc d=1")
		c := merge("b", "")
		c.Files = []api.File{x}
		b.ok(c)
		if m := b.r.State().Mem; len(m) != 0 {
			t.Errorf("%d: %v", k, m)
		}
		if got := b.tree(b.at("main")); k == 1 && got != "d=1" { // what is behind it stays
			t.Error(got)
		}
	}
	marks := "<<<<<<<\nb\n|||||||\na\n=======\nc\n>>>>>>>\n"
	with := func(kind int, l ...string) *box { // base, ours, theirs, each a file or none
		b := newBox(t)
		c := func(k int) {
			x := api.Cmd{Kind: api.CCommit, Files: []api.File{{Path: "z", Kind: 1, Data: []byte{byte('0' + k)}}}}
			if l[k] != "" {
				x.Files = append([]api.File{{Path: "c", Kind: kind, Data: []byte(l[k])}}, x.Files...)
			}
			b.ok(x)
		}
		c(0)
		b.branch("b")
		b.switchTo("b")
		c(2)
		b.switchTo("main")
		c(1)
		return b
	}
	b := with(api.KLink, "1", marks, "2")
	b.ok(merge("b", "c=1 z=1"))
	if m := b.r.State().Mem; len(m) != 1 { // z's alone
		t.Error(m)
	}
	b = with(api.KFile, marks, "", marks+"more\n")
	b.clash("c:2 z:1", merge("b", ""))
	b.ok(merge("b", "c=1 z=1"))
	if m := b.r.State().Mem; len(m) != 1 || len(b.r.State().Refs) != 2 {
		t.Error(m)
	}
}

// A file that clashes may have gone to another place; then nothing stands where it clashes.
func TestAClashWhereNothingStands(t *testing.T) { // P2102
	b := forked(t, "a=vwxyz", "q=1wxyz", "a=2wxyz q/k=7")
	b.clash("q:1 q:6", merge("b", ""))
	b.no(api.ErrDir, merge("b", "q=9"))
	c := merge("b", "")
	c.Files = []api.File{{Path: "q"}}
	b.ok(c)
	if got := b.tree(b.at("main")); !strings.HasPrefix(got, "q/k=7 q~=<<<<<<<1") || len(b.r.State().Mem) != 0 {
		t.Error(got)
	}
}

func TestTheLongestResolution(t *testing.T) { // P2102
	b := forked(t, "c=abc", "c=aXc", "c=aYc")
	c := merge("b", "c=1")
	c.Files[0].Data = make([]byte, api.MaxBlob)
	b.ok(c)
}

// chain puts n commits, one of the other, and tells the youngest.
func (b *box) chain(n int, author string) api.Id {
	b.t.Helper()
	s, _ := store.Open(b.f)
	tree, _ := s.Put(api.Obj{Kind: api.OTree})
	c := api.Commit{Tree: tree, Author: author}
	for range n {
		body, _ := codec.EncodeCommit(c)
		i, e := s.Put(api.Obj{Kind: api.OCommit, Body: body})
		if e != api.OK {
			b.t.Fatal(e)
		}
		c.Parents = []api.Id{i}
	}
	return c.Parents[0]
}

// What histories answer is answered where a row asks it.
func TestErrorsOfHistories(t *testing.T) { // P2102
	b := newBox(t)
	b.ok(api.Cmd{Kind: api.CBranch, Name: "long", At: b.chain(5001, "a")})
	b.no(api.ErrNone, merge("none", "x=y"))
	b.commit("a=1")
	b.no(api.ErrMany, merge("long", ""))
	b.no(api.ErrMany, api.Cmd{Kind: api.CRebase, At: b.at("long")})
	b.ok(api.Cmd{Kind: api.CCollect})
	b.whole()

	b = forked(t, "a=1", "b=1", "c=1")
	b.commit("b=2")
	middle := b.read(b.at("main")).Parents[0]
	b.switchTo("b")
	b.f.Write(loose.Path(middle), []byte("x"))
	b.no(api.ErrSum, merge("main", ""))
	b.no(api.ErrSum, api.Cmd{Kind: api.CRebase, At: b.at("main")})
	b.no(api.ErrSum, api.Cmd{Kind: api.CPick, Todo: todo(1, middle)})
	b = forked(t, "a=1", "b=1", "c=1")
	b.f.Write(loose.Path(b.read(b.at("b")).Tree), []byte("x"))
	b.no(api.ErrSum, merge("b", ""))
	b.f.Write(loose.Path(b.at("main")), []byte("x"))
	b.no(api.ErrSum, commit("n=1"))
	b.no(api.ErrSum, api.Cmd{Kind: api.CBranch, Name: "n"})
	b.f.Stop(1)
	b.f.SyncDir("")
	b.no(api.ErrNone, merge("none", ""))
	b.no(api.ErrNone, api.Cmd{Kind: api.CSwitch, Name: "none"})
	b.no(api.ErrDead, commit("n=1"))
	b.no(api.ErrDead, api.Cmd{Kind: api.CBranch, Name: "n"})
	e := newBox(t)
	e.f.Stop(1)
	e.f.SyncDir("")
	e.no(api.ErrNone, api.Cmd{Kind: api.CBranch, Name: "n"})
}

// Two conflicts that are alike take one place of the memory; the last one by paths stays.
func TestAlikeConflicts(t *testing.T) { // P2102
	b := forked(t, "a=1 b=1", "a=X b=X", "a=Y b=Y")
	b.ok(merge("b", "a=P b=Q"))
	if m := b.r.State().Mem; len(m) != 1 || string(m[0].Data) != "Q\n" {
		t.Error(m)
	}
}

func TestLongTransactions(t *testing.T) { // P2102: refs.Check is asked ahead
	var base, ours, theirs, out []api.File
	for k := range 17 {
		p := fmt.Sprintf("f%02d", k)
		add := func(l []api.File, data string) []api.File {
			return append(l, api.File{Path: p, Kind: 1, Data: []byte(data)})
		}
		base, ours, theirs = add(base, fmt.Sprint(k)), add(ours, fmt.Sprint("X", k)), add(theirs, fmt.Sprint("Y", k))
		out = add(out, strings.Repeat("z", 65536))
	}
	b := newBox(t)
	b.ok(api.Cmd{Kind: api.CCommit, Files: base})
	b.branch("b")
	b.ok(api.Cmd{Kind: api.CCommit, Files: ours})
	b.switchTo("b")
	b.ok(api.Cmd{Kind: api.CCommit, Files: theirs})
	c := merge("main", "")
	c.Files = out
	b.no(api.ErrLong, c)
}
