package repo_test

import (
	"slices"
	"testing"

	"selvage/api"
	"selvage/loose"
	"selvage/refs"
	"selvage/repo"
	"selvage/simfs"
)

// gone asks that just so many objects of before are there no more.
func (b *box) gone(before []api.Id, n int) {
	b.t.Helper()
	now, e := b.r.Objects()
	if e != api.OK || len(now) != len(before)-n {
		b.t.Errorf("%d objects of %d, %v, not %d less", len(now), len(before), e, n)
	}
	for _, i := range now {
		if !slices.Contains(before, i) {
			b.t.Error("an object came")
		}
	}
	b.whole()
}

func (b *box) objects() []api.Id {
	l, _ := b.r.Objects()
	return l
}

func TestCollect(t *testing.T) { // P2102, T3
	b := newBox(t)
	b.commit("a=1 d/e=2")
	b.branch("b")
	b.switchTo("b")
	b.commit("a=1 n=3")
	all := b.objects()
	if a := b.ok(api.Cmd{Kind: api.CCollect}); a.N != 0 || a.Id != none {
		t.Error(a)
	}
	b.gone(all, 0)
	// what a log names stays
	b.ok(api.Cmd{Kind: api.CReset, Old: b.at("b"), At: b.at("main")})
	if a := b.ok(api.Cmd{Kind: api.CCollect}); a.N != 0 {
		t.Error(a)
	}
	b.gone(all, 0)
	b.switchTo("main")
	b.ok(api.Cmd{Kind: api.CDelete, Name: "b"})
	s := b.r.State()
	if a := b.ok(api.Cmd{Kind: api.CCollect}); a.N != 3 { // a commit, a tree, a blob
		t.Error(a)
	}
	b.gone(all, 3)
	if !refs.Same(s, b.r.State()) {
		t.Error("the state was changed")
	}
	b.open()
	b.whole()
}

// What a sequence names stays.
func TestCollectOfASequence(t *testing.T) { // P2102, T3
	b, l := stopped(t)
	b.ok(api.Cmd{Kind: api.CBranch, Name: "x", At: l[0]})
	b.ok(api.Cmd{Kind: api.CCollect})
	b.whole()
	b.ok(resolved("f=aZc"))
	// also of steps that nothing else names
	b, l = rows(t, "f=abc", "f=aXc", "f=aYc", "f=aYc g=1")
	b.ok(api.Cmd{Kind: api.CDelete, Name: "b"})
	b.clash("f:1", pick(1, l[0], 1, l[1]))
	if a := b.ok(api.Cmd{Kind: api.CCollect}); a.N != 0 {
		t.Error(a)
	}
	b.whole()
	b.ends(resolved("f=aZc"), 2)
	all := b.objects()
	a := b.ok(api.Cmd{Kind: api.CCollect})
	if a.N != 5 { // of f=aYc and f=aYc g=1 the commits and trees, and the bytes aYc
		t.Error(a)
	}
	b.gone(all, a.N)
}

func TestCollectRefuses(t *testing.T) { // P2102
	b := newBox(t)
	b.commit("a=1")
	i := b.commit("a=2")
	b.f.Write(loose.Path(b.read(i).Tree), []byte("x"))
	b.no(api.ErrSum, api.Cmd{Kind: api.CCollect})
	b.no(api.ErrSum, api.Cmd{Kind: api.CRepack})
	b.f.Remove(loose.Path(b.read(i).Tree))
	b.no(api.ErrNone, api.Cmd{Kind: api.CCollect})
}

func TestRepackAndRecover(t *testing.T) { // P2102, T3
	b := newBox(t)
	b.commit("a=1")
	b.branch("b")
	b.switchTo("b")
	b.commit("a=2")
	b.switchTo("main")
	b.ok(api.Cmd{Kind: api.CDelete, Name: "b"})
	all := b.objects()
	if a := b.ok(api.Cmd{Kind: api.CRepack}); a.N != 6 || a.Id != none {
		t.Error(a)
	}
	b.gone(all, 0)
	if l, _ := b.f.List("p"); len(l) != 1 {
		t.Error(l)
	}
	s := b.r.State()
	if a := b.ok(api.Cmd{Kind: api.CRecover}); a.N != 6 || !refs.Same(s, b.r.State()) {
		t.Error(a)
	}
	// what another one did is read again
	other, _ := loose.Open(b.f).Put(api.Obj{Kind: api.OBlob, Body: []byte("other")})
	b.f.Crash()
	if a := b.ok(api.Cmd{Kind: api.CRecover}); a.N != 7 || !slices.Contains(b.objects(), other) {
		t.Error(a)
	}
	r, _ := repo.Open(b.f)
	r.Do(commit("by=another"))
	r.Do(api.Cmd{Kind: api.CRepack})
	b.ok(api.Cmd{Kind: api.CRecover})
	if !refs.Same(r.State(), b.r.State()) || b.tree(b.at("main")) != "by=another" {
		t.Error("the state is not read again")
	}
	b.f.Write("p/0000000000000000000000000000000000000000000000000000000000000000", nil)
	b.no(api.ErrSum, api.Cmd{Kind: api.CRecover})
	b.commit("a=3")
	b.f.Stop(1)
	b.f.SyncDir("")
	b.no(api.ErrDead, api.Cmd{Kind: api.CRecover})
}

func TestRecoverBehindACrash(t *testing.T) { // P2102, T2
	b := newBox(t)
	b.commit("a=1")
	s := b.r.State()
	b.f.Stop(7)
	if a := b.r.Do(commit("a=2")); a.Err != api.ErrDead {
		t.Fatal(a)
	}
	b.f.Crash(1, 2, 3)
	b.ok(api.Cmd{Kind: api.CRecover})
	if !refs.Same(s, b.r.State()) {
		t.Error("another state")
	}
	b.commit("a=2")
	b.whole()
}

// A tree for which there is no room lets no commit stand.
func TestATreeWithoutRoom(t *testing.T) { // P2102
	f, _ := simfs.New(3000, 1<<20)
	b := &box{t: t, f: f}
	b.open()
	b.ok(api.Cmd{Kind: api.CInit, Name: "main"})
	for _, most := range []api.Errno{api.ErrFull, api.ErrFull} {
		c := commit("a=1")
		c.Files[0].Data = make([]byte, 4000)
		if a := b.r.Do(c); a.Err != most || b.at("main") != none {
			t.Error(a)
		}
	}
	b.commit("a=1")
	b.whole()
}

// What the disk refuses leaves the state as it was.
func TestWithoutRoom(t *testing.T) { // P2102
	for room := 300; room < 4000; room += 37 {
		f, _ := simfs.New(room, 1<<20)
		b := &box{t: t, f: f}
		b.open()
		refusals := 0
		for _, c := range []api.Cmd{
			{Kind: api.CInit, Name: "main"}, commit("a=1"), {Kind: api.CBranch, Name: "b"}, commit("a=1 b=2"), {Kind: api.CSwitch, Name: "b"},
			commit("a=1 c=3"), merge("main", ""), {Kind: api.CRepack}, {Kind: api.CCollect},
		} {
			s := b.r.State()
			a := b.r.Do(c)
			switch a.Err {
			case api.OK:
			case api.ErrFull:
				refusals++
				fallthrough
			default:
				if !refs.Same(s, b.r.State()) || a.Id != none || a.N != 0 {
					t.Fatalf("room %d: command %d: %v", room, c.Kind, a.Err)
				}
			}
			b.whole()
		}
		if room < 2000 && refusals == 0 {
			t.Error("nothing was refused with room for", room)
		}
		s := b.r.State()
		b.f.Crash(1, 2, 3)
		b.open()
		if !refs.Same(s, b.r.State()) {
			t.Fatal("another state")
		}
		b.whole()
	}
}
