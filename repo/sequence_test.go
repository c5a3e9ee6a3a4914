package repo_test

import (
	"fmt"
	"slices"
	"strings"
	"testing"

	"selvage/api"
	"selvage/loose"
	"selvage/refs"
)

// rows tells a box whose branch b has commits of its own: each of texts, one behind the other. main has one more than their base.
func rows(t *testing.T, base, ours string, texts ...string) (*box, []api.Id) {
	t.Helper()
	b := newBox(t)
	b.commit(base)
	b.branch("b")
	b.switchTo("b")
	var l []api.Id
	for _, s := range texts {
		l = append(l, b.commit(s))
	}
	b.switchTo("main")
	if ours != "" {
		b.commit(ours)
	}
	return b, l
}

func pick(l ...any) api.Cmd     { return api.Cmd{Kind: api.CPick, Todo: todo(l...)} }
func resolved(s string) api.Cmd { return api.Cmd{Kind: api.CContinue, Files: files(s)} }

// ends asks what a command answers that left nothing to do.
func (b *box) ends(c api.Cmd, n int) {
	b.t.Helper()
	a := b.ok(c)
	if s := b.r.State(); a.N != n || a.Id != b.at(s.Head) || s.Seq.Kind != 0 || len(s.Seq.Todo) != 0 {
		b.t.Errorf("command %d: %+v, %+v", c.Kind, a, s.Seq)
	}
}

func TestPick(t *testing.T) { // P2102
	b, l := rows(t, "f=abcdef", "f=Xbcdef", "f=abcdeY", "f=abcdeY g=1", "f=abcdeY")
	h := b.at("main")
	b.ends(pick(1, l[0], 1, l[1], 2, l[2], 1, l[2], 1, l[2]), 5)
	b.stands("f=XbcdeY", b.read(b.at("main")).Parents...)
	third := b.read(b.at("main"))
	second := b.read(third.Parents[0])
	first := b.read(second.Parents[0])
	if first.Parents[0] != h || b.tree(second.Parents[0]) != "f=XbcdeY" || b.tree(third.Parents[0]) != "f=XbcdeY g=1" {
		t.Error("commits are others")
	}
	for k, c := range []api.Commit{first, second, third} {
		if want := b.read(l[k]); c.Author != want.Author || c.Time != want.Time || c.Message != want.Message || len(c.Parents) != 1 {
			t.Errorf("commit %d: %+v", k, c)
		}
	}
	if b.log("main") != "commit commit pick pick pick" {
		t.Error(b.log("main"))
	}
}

func TestPickOfARoot(t *testing.T) { // W5: the empty tree, if it has no parent
	b := newBox(t)
	root := b.commit("a=1")
	b.commit("a=2 b=2")
	b.commit("b=2")
	b.ends(pick(1, root), 1)
	b.stands("a=1 b=2", b.read(b.at("main")).Parents...)
}

func TestPickRefuses(t *testing.T) { // P2102
	b := newBox(t)
	b.no(api.ErrNone, pick())
	b, l := rows(t, "f=abc", "f=abc g=1", "f=abX")
	b.ok(merge("b", ""))
	m := b.at("main")
	b.no(api.ErrArg, pick())
	b.no(api.ErrKind, pick(0, l[0]))
	b.no(api.ErrKind, pick(4, api.Id{1}))
	b.no(api.ErrKind, pick(-1, none))
	b.no(api.ErrNone, pick(1, none))
	b.no(api.ErrNone, pick(1, l[0], 1, api.Id{1}, 9, l[0]))
	b.no(api.ErrKind, pick(1, b.read(l[0]).Tree))
	b.no(api.ErrArg, pick(1, m))
	b.no(api.ErrArg, pick(2, m, 9, m))
	c := pick()
	for range 101 {
		c.Todo = append(c.Todo, api.Todo{Do: 9})
	}
	b.no(api.ErrMany, c)
	for k := range c.Todo {
		c.Todo[k] = api.Todo{Do: api.TDrop, Id: l[0]}
	}
	b.no(api.ErrMany, c)
	c.Todo = c.Todo[1:]
	b.ends(c, 100)
	if b.at("main") != m || b.log("main") != "commit commit merge" {
		t.Error(b.log("main"))
	}
	for _, k := range []int{api.CContinue, api.CSkip, api.CAbort} {
		b.no(api.ErrIdle, api.Cmd{Kind: k, Files: files("x=y")})
	}
}

func TestDoneWithoutACommit(t *testing.T) { // P2102
	b, l := rows(t, "f=abc", "f=abX g=1", "f=abX", "f=abX g=1")
	h := b.at("main")
	b.ends(pick(1, l[0], 3, l[1]), 2) // a squash of nothing is a pick
	if b.at("main") != h || b.log("main") != "commit commit" {
		t.Error(b.log("main"))
	}
}

func TestSquash(t *testing.T) { // P2102
	b, l := rows(t, "f=abcdef", "f=Xbcdef", "f=abcdeY", "f=abcdeY g=1", "f=abcdeY g=1 h=1")
	h := b.at("main")
	b.ends(pick(3, l[0], 3, l[1], 1, l[2], 3, l[2]), 4)
	last := b.read(b.at("main"))
	if b.tree(b.at("main")) != "f=XbcdeY g=1 h=1" || last.Message != "f=abcdeY g=1 h=1\nf=abcdeY g=1 h=1" {
		t.Errorf("%+v", last)
	}
	first := b.read(last.Parents[0])
	if b.tree(last.Parents[0]) != "f=XbcdeY g=1" || first.Message != "f=abcdeY\nf=abcdeY g=1" || !slices.Equal(first.Parents, []api.Id{h}) ||
		first.Author != "me" || first.Time != b.read(l[0]).Time {
		t.Errorf("%+v", first)
	}
	if b.log("main") != "commit commit pick squash pick squash" {
		t.Error(b.log("main"))
	}
	b.whole()
}

func TestSquashOfLongMessages(t *testing.T) { // P2102: cut to MaxText bytes
	b := newBox(t)
	b.commit("a=1")
	b.branch("b")
	c := commit("a=2")
	c.Text = strings.Repeat("m", 999)
	one := b.ok(c).Id
	c = commit("a=3")
	c.Text = "xyz"
	two := b.ok(c).Id
	b.switchTo("b")
	b.ends(pick(1, one, 3, two), 2)
	if m := b.read(b.at("b")).Message; m != strings.Repeat("m", 999)+"\n" {
		t.Errorf("%d bytes", len(m))
	}
	// what would be the same commit as the one whose place it takes is none
	c = commit("a=4")
	c.Text = strings.Repeat("n", 1000)
	three := b.ok(c).Id
	same := b.ok(api.Cmd{Kind: api.CReset, Old: three, At: one}).Id
	if same != one {
		t.Fatal(same)
	}
	b.ok(api.Cmd{Kind: api.CReset, Old: one, At: two})
	b.ok(commit("a=3 b=1"))
	b.ok(commit("a=3 c=1"))
	drop := b.ok(api.Cmd{Kind: api.CCommit, Text: strings.Repeat("q", 1000), Files: files("a=3 c=1 d=1")}).Id
	at := b.read(drop).Parents[0]
	b.ok(api.Cmd{Kind: api.CReset, Old: drop, At: at})
	b.ends(pick(1, drop, 3, drop), 2)
	if b.log("b") != "branch pick squash commit reset reset commit commit commit reset pick" || b.read(b.at("b")).Message != strings.Repeat("q", 1000) {
		t.Error(b.log("b"))
	}
}

func TestRebase(t *testing.T) { // P2102
	b, l := rows(t, "f=abcdef", "f=Xbcdef", "f=abcdeY", "f=abcdeY g=1")
	onto := b.at("main")
	b.switchTo("b")
	h := b.at("b")
	b.no(api.ErrNone, api.Cmd{Kind: api.CRebase})
	b.no(api.ErrNone, api.Cmd{Kind: api.CRebase, At: api.Id{1}, Todo: todo(9, none)})
	b.no(api.ErrKind, api.Cmd{Kind: api.CRebase, At: b.read(h).Tree})
	b.no(api.ErrKind, api.Cmd{Kind: api.CRebase, At: onto, Todo: todo(9, none)})
	b.no(api.ErrSame, api.Cmd{Kind: api.CRebase, At: h})
	b.no(api.ErrNone, api.Cmd{Kind: api.CRebase, At: onto, Todo: todo(1, l[0], 1, api.Id{1})})
	b.no(api.ErrKind, api.Cmd{Kind: api.CRebase, At: onto, Todo: todo(1, b.read(h).Tree)})
	b.ends(api.Cmd{Kind: api.CRebase, At: onto}, 2)
	b.stands("f=XbcdeY g=1", b.read(b.at("b")).Parents...)
	if p := b.read(b.at("b")).Parents[0]; b.tree(p) != "f=XbcdeY" || b.read(p).Parents[0] != onto {
		t.Error("other commits")
	}
	if b.log("b") != "branch commit commit rebase pick pick" {
		t.Error(b.log("b"))
	}
	// to an ancestor: all of its own is none
	b.switchTo("main")
	b.ends(api.Cmd{Kind: api.CRebase, At: b.at("b")}, 0)
	if b.at("main") != b.at("b") || b.log("main") != "commit commit rebase" {
		t.Error(b.log("main"))
	}
	// with a Todo, where the head is: no move
	b.ends(api.Cmd{Kind: api.CRebase, At: b.at("main"), Todo: todo(2, l[0])}, 1)
	if b.log("main") != "commit commit rebase" {
		t.Error(b.log("main"))
	}
	b.ends(api.Cmd{Kind: api.CRebase, At: l[0], Todo: todo(1, l[1])}, 1)
	if b.at("main") == l[1] != (b.read(l[1]).Parents[0] == l[0]) || b.log("main") != "commit commit rebase rebase pick" {
		t.Error(b.log("main"))
	}
	b.whole()
}

func TestRebaseWithoutAHead(t *testing.T) { // P2102
	b := newBox(t)
	b.no(api.ErrNone, api.Cmd{Kind: api.CRebase, At: api.Id{1}, Todo: todo(9, none)})
}

func TestRebaseOverMerges(t *testing.T) { // P2102: of its own all with at most one parent
	b, _ := rows(t, "f=abc", "m=1", "b=1 f=abc")
	b.ok(merge("b", ""))
	b.commit("b=1 m=1 z=9")
	b.ok(api.Cmd{Kind: api.CBranch, Name: "o", At: b.read(b.read(b.at("main")).Parents[0]).Parents[1]})
	b.ends(api.Cmd{Kind: api.CRebase, At: b.at("o")}, 2)
	b.stands("b=1 m=1 z=9", b.read(b.at("main")).Parents...)
}

func TestRebaseOfMany(t *testing.T) { // P2102
	b := newBox(t)
	base := b.commit("n=1")
	for k := range 101 {
		b.commit(fmt.Sprintf("n=%c%c", 'a'+k/26, 'a'+k%26))
	}
	b.ok(api.Cmd{Kind: api.CBranch, Name: "b", At: base})
	b.switchTo("b")
	onto := b.commit("n=1 x=1")
	b.switchTo("main")
	b.no(api.ErrMany, api.Cmd{Kind: api.CRebase, At: onto})
	b.ok(api.Cmd{Kind: api.CReset, Old: b.at("main"), At: b.read(b.at("main")).Parents[0]})
	b.ends(api.Cmd{Kind: api.CRebase, At: onto}, 100)
	b.whole()
}

// stopped tells a box whose sequence stopped at the second of four steps.
func stopped(t *testing.T) (*box, []api.Id) {
	t.Helper()
	b, l := rows(t, "f=abc", "f=aXc k=1", "f=abc g=1", "f=aYc g=1", "f=aYc g=1 h=1", "f=aYc g=2 h=1")
	a := b.clash("f:1", pick(1, l[0], 1, l[1], 1, l[2], 1, l[3]))
	s := b.r.State().Seq
	if a.N != 1 || a.Id != s.Cur || s.Cur != b.at("main") || !s.Stopped || s.Done != 1 || s.Made != 1 || s.Kind != api.SPick || s.Branch != "main" || len(s.Todo) != 4 {
		t.Fatalf("%+v, %+v", a, s)
	}
	return b, l
}

func TestBusy(t *testing.T) { // P2102
	b, l := stopped(t)
	long := api.Cmd{Author: strings.Repeat("x", 1001), Todo: todo(9, l[0])}
	for _, k := range []int{api.CCommit, api.CDelete, api.CSwitch, api.CMerge, api.CPick, api.CRebase, api.CReset} {
		long.Kind = k
		b.no(api.ErrBusy, long)
	}
	b.ok(api.Cmd{Kind: api.CBranch, Name: "new"})
	b.ok(api.Cmd{Kind: api.CCollect})
	b.whole()
	b.ok(api.Cmd{Kind: api.CRecover})
	if s := b.r.State().Seq; !s.Stopped || s.Done != 1 {
		t.Error(s)
	}
}

func TestContinue(t *testing.T) { // P2102
	b, l := stopped(t)
	s, ops := b.r.State(), b.f.Ops()
	cur := s.Seq.Cur
	if a := b.clash("f:1", resolved("")); a.Id != cur || a.N != 0 {
		t.Error(a)
	}
	if !refs.Same(s, b.r.State()) || b.f.Ops() != ops {
		t.Error("it was stopped already")
	}
	b.no(api.ErrArg, resolved("x=y"))
	c := resolved("f=ab")
	c.Files[0].Data = []byte(">>>>>>>")
	b.no(api.ErrMarks, c)
	b.ends(resolved("f=aZc"), 3)
	b.stands("f=aZc g=2 h=1 k=1", b.read(b.at("main")).Parents...)
	at := b.at("main")
	for _, k := range []int{3, 2, 1} {
		if got := b.read(at); got.Message != b.read(l[k]).Message {
			t.Errorf("step %d: %q", k, got.Message)
		}
		at = b.read(at).Parents[0]
	}
	if at != cur || len(b.r.State().Mem) != 1 {
		t.Error("a commit is missing, or what was made of the conflict")
	}
	// once more: the conflict is known
	b.ok(api.Cmd{Kind: api.CReset, Old: b.at("main"), At: cur})
	b.ends(pick(1, l[1]), 1)
	b.stands("f=aZc g=1 k=1", cur)
}

// A step that is resolved to what was there is done without a commit; what was made of it is learned all the same.
func TestContinueWithoutACommit(t *testing.T) { // P2102
	b, l := rows(t, "f=abc", "f=aXc", "f=aYc")
	h := b.at("main")
	if a := b.clash("f:1", pick(1, l[0])); a.Id != h || a.N != 0 {
		t.Error(a)
	}
	b.ends(resolved("f=aXc"), 1)
	if b.at("main") != h || len(b.r.State().Mem) != 1 || b.log("main") != "commit commit" {
		t.Error(b.log("main"))
	}
}

func TestContinueToTheNextStop(t *testing.T) { // P2102
	b, l := rows(t, "f=abc", "f=aXc", "f=aYc", "f=aYc g=1", "f=aWc g=1")
	b.clash("f:1", pick(1, l[0], 3, l[1], 3, l[2]))
	if a := b.clash("f:1", resolved("f=aZc")); a.N != 2 || a.Id != b.at("main") || a.Id != b.r.State().Seq.Cur {
		t.Error(a)
	}
	if s := b.r.State().Seq; !s.Stopped || s.Done != 2 || s.Made != 2 {
		t.Error(s)
	}
	b.ends(resolved("f=aQc"), 1)
	b.stands("f=aQc g=1", b.read(b.at("main")).Parents...)
	if b.log("main") != "commit commit pick squash squash" {
		t.Error(b.log("main"))
	}
}

func TestContinueOfWhatDidNotStop(t *testing.T) { // P2102
	b, l := rows(t, "f=abc", "f=aXc", "f=abc g=1", "f=abc h=1")
	// the disk stops behind the beginning of the sequence
	b.f.Stop(5)
	if a := b.r.Do(pick(1, l[0], 1, l[1])); a.Err != api.ErrDead || a.N != 0 || a.Id != b.at("main") {
		t.Fatal(a)
	}
	b.f.Crash()
	b.open()
	if s := b.r.State().Seq; s.Kind != api.SPick || s.Stopped || s.Done != 0 {
		t.Fatal(s)
	}
	b.no(api.ErrArg, resolved("f=x"))
	b.ends(resolved(""), 2)
	b.stands("f=aXc h=1", b.read(b.at("main")).Parents...)
}

func TestSkip(t *testing.T) { // P2102
	b, _ := stopped(t)
	cur := b.at("main")
	b.ends(api.Cmd{Kind: api.CSkip}, 3)
	b.stands("f=aXc g=2 h=1 k=1", b.read(b.at("main")).Parents...)
	if p := b.read(b.at("main")).Parents[0]; b.read(p).Parents[0] != cur {
		t.Error("a commit too many")
	}
	b, l := rows(t, "f=abc", "f=aXc", "f=aYc")
	h := b.at("main")
	b.clash("f:1", pick(1, l[0]))
	b.ends(api.Cmd{Kind: api.CSkip}, 1)
	if b.at("main") != h {
		t.Error("the branch moved")
	}
	// to the next stop
	b, l = rows(t, "f=abc", "f=aXc", "f=aYc", "f=aWc")
	b.clash("f:1", pick(1, l[0], 1, l[1], 1, l[0]))
	if a := b.clash("f:1", api.Cmd{Kind: api.CSkip}); a.N != 1 || a.Id != b.at("main") {
		t.Error(a)
	}
}

func TestAbort(t *testing.T) { // P2102, T4
	b, _ := stopped(t)
	orig := b.r.State().Seq.Orig
	if a := b.ok(api.Cmd{Kind: api.CAbort}); a.Id != orig || a.N != 0 || b.at("main") != orig || b.r.State().Seq.Kind != 0 || b.log("main") != "commit commit pick abort" {
		t.Error(a, b.log("main"))
	}
	b, l := rows(t, "f=abc", "f=aXc", "f=aYc")
	b.clash("f:1", pick(1, l[0]))
	h := b.at("main")
	if a := b.ok(api.Cmd{Kind: api.CAbort}); a.Id != h || b.log("main") != "commit commit" {
		t.Error(a, b.log("main"))
	}
	b.switchTo("b")
	at := b.at("b")
	if a := b.clash("f:1", api.Cmd{Kind: api.CRebase, At: h}); a.Id != h || a.N != 0 || b.at("b") != h {
		t.Error(a)
	}
	b.ok(api.Cmd{Kind: api.CAbort})
	if b.at("b") != at || b.log("b") != "branch commit rebase abort" {
		t.Error(b.log("b"))
	}
}

// A step that fails for another reason than a clash is not done; those ahead of it stay.
func TestOtherErrorsOfSteps(t *testing.T) { // P2102
	b := newBox(t)
	var l []api.File
	for k := range 900 {
		l = append(l, api.File{Path: fmt.Sprintf("d%d/%03d", k/450, k), Kind: 1})
	}
	base := b.commit("z=1")
	b.ok(api.Cmd{Kind: api.CCommit, Files: l})
	b.ok(api.Cmd{Kind: api.CBranch, Name: "b", At: base})
	b.switchTo("b")
	ok := b.commit("y=2 z=1")
	for k := range l {
		l[k].Path = "o" + l[k].Path
	}
	many := b.ok(api.Cmd{Kind: api.CCommit, Files: l}).Id
	b.switchTo("main")
	a := b.r.Do(pick(1, ok, 1, many, 1, ok))
	s := b.r.State().Seq
	if a.Err != api.ErrMany || a.Id != s.Cur || a.N != 1 || len(a.Clashes) != 0 || s.Done != 1 || s.Stopped || b.at("main") != s.Cur {
		t.Errorf("%v, %v", a, s)
	}
	if a := b.r.Do(resolved("")); a.Err != api.ErrMany || a.Id != s.Cur || a.N != 0 {
		t.Error(a)
	}
	b.ends(api.Cmd{Kind: api.CSkip}, 2)
}

// What cannot be read ends a step, and the command that asks for it.
func TestStepsThatCannotBeRead(t *testing.T) { // P2102
	for k := range 4 {
		b, l := rows(t, "f=abc", "f=aXc", "f=abc g=1", "f=abc g=1 h=1")
		cur := b.at("main")
		b.ok(api.Cmd{Kind: api.CReset, Old: cur, At: l[1]})
		b.ok(api.Cmd{Kind: api.CReset, Old: l[1], At: cur})
		broken := []api.Id{l[0], l[1], cur, l[0]}[k]
		b.f.Write(loose.Path(b.read(broken).Tree), []byte("x"))
		if k == 3 {
			c := b.read(l[0])
			b.f.Write(loose.Path(c.Tree), []byte("y"))
		}
		a := b.r.Do(pick(2, l[0], 1, l[1]))
		s := b.r.State().Seq
		if a.Err != api.ErrSum || a.Id != s.Cur || a.Id != cur || a.N != 1 || s.Done != 1 || s.Stopped {
			t.Errorf("%d: %+v, %+v", k, a, s)
		}
	}
	b, l := stopped(t)
	b.f.Write(loose.Path(b.read(l[1]).Tree), []byte("x"))
	b.no(api.ErrSum, resolved("f=aZc"))
	b, _ = stopped(t)
	b.f.Write(loose.Path(b.read(b.at("main")).Tree), []byte("x"))
	b.no(api.ErrSum, resolved("f=aZc"))
}

// While the disk has stopped a step tells how far the command came; the one that a sequence stopped at tells nothing.
func TestStepsOnAStoppedDisk(t *testing.T) { // P2102
	b, l := rows(t, "f=abc", "f=aXc", "f=abc g=1", "f=abc g=1 h=1")
	cur := b.at("main")
	b.f.Stop(9)
	if a := b.r.Do(pick(2, l[0], 2, l[1])); a.Err != api.ErrDead || a.Id != cur || a.N != 1 {
		t.Error(a)
	}
	for _, c := range []api.Cmd{{Kind: api.CSkip}, resolved("f=aZc"), {Kind: api.CAbort}} {
		b, _ = stopped(t)
		b.f.Stop(1)
		a := b.r.Do(c)
		if a.Err != api.ErrDead || a.Id != none || a.N != 0 {
			t.Error(a)
		}
		b.no(api.ErrDead, c)
	}
	// that it stopped could not be told
	b, l = rows(t, "f=abc", "f=aXc", "f=aYc")
	cur = b.at("main")
	b.f.Stop(5)
	if a := b.r.Do(pick(1, l[0])); a.Err != api.ErrDead || a.Id != cur || a.N != 0 || len(a.Clashes) != 0 || b.r.State().Seq.Stopped {
		t.Error(a)
	}
}

// A sequence that stopped at what is left out has no clashes to resolve.
func TestStoppedAtADrop(t *testing.T) { // P2102
	b, l := rows(t, "f=abc", "f=aXc", "f=abc g=1")
	book, _ := refs.Open(b.f)
	s := api.Seq{Kind: api.SPick, Branch: "main", Orig: b.at("main"), Cur: b.at("main"), Todo: todo(2, l[0]), Stopped: true}
	if e := book.Do(api.Tx{HasSeq: true, Seq: s}); e != api.OK {
		t.Fatal(e)
	}
	b.open()
	b.no(api.ErrArg, resolved("f=x"))
	b.ends(resolved(""), 1)
}
