package repo_test

import (
	"fmt"
	"math/rand"
	"testing"

	"selvage/api"
	"selvage/refs"
)

// someCommand tells a command that may be done, or refused.
func someCommand(r *rand.Rand, ids []api.Id) api.Cmd {
	id := func() api.Id {
		if n := r.Intn(len(ids) + 1); n < len(ids) {
			return ids[n]
		}
		return none
	}
	names := []string{"main", "b", "c", "b/d", "/"}
	tree := func() []api.File {
		s := ""
		for _, p := range []string{"a", "b", "d/e", "d"} {
			if r.Intn(3) > 0 {
				s += fmt.Sprintf(" %s%s=x%cyz%c", p, []string{"", "", "", "*", "@"}[r.Intn(5)], 'p'+r.Intn(3), 'p'+r.Intn(3))
			}
		}
		return files(s)
	}
	c := api.Cmd{Kind: 1 + r.Intn(15), Name: names[r.Intn(len(names))], Author: "me", Text: fmt.Sprint(r.Intn(3)), Time: int64(r.Intn(3)), At: id(), Old: id()}
	if r.Intn(40) == 0 {
		c.Kind = r.Intn(40) - 10
	}
	switch c.Kind {
	case api.CCommit:
		c.Files = tree()
	case api.CMerge, api.CContinue:
		if r.Intn(3) == 0 {
			c.Files = files("a=r" + []string{"", " b=s", " b=s d=t", " d/e=u"}[r.Intn(4)])
		}
	case api.CPick, api.CRebase:
		for range r.Intn(4) {
			c.Todo = append(c.Todo, api.Todo{Do: 1 + r.Intn(3), Id: id()})
		}
	}
	return c
}

// solved tells the command that clashed, with files for all its clashes; a sequence's goes on.
func solved(c api.Cmd, a api.Answer) api.Cmd {
	if c.Kind != api.CMerge {
		c = api.Cmd{Kind: api.CContinue}
	}
	c.Files = nil
	for k, x := range a.Clashes {
		if k == 0 || x.Path != a.Clashes[k-1].Path {
			c.Files = append(c.Files, api.File{Path: x.Path, Kind: api.KFile, Data: []byte(fmt.Sprint("s", k))})
		}
	}
	return c
}

// TestRandomCommands plays commands of all kinds: what is refused changes nothing, nothing is lost, and each error is answered in its time.
func TestRandomCommands(t *testing.T) { // T1, T3, T4, T7
	r := rand.New(rand.NewSource(28))
	answers := map[string]int{}
	for range 60 {
		b := newBox(t)
		var ids []api.Id
		var c api.Cmd
		var a api.Answer
		for range 80 {
			s := b.r.State()
			if a.Err == api.ErrConflict && r.Intn(3) > 0 {
				c = solved(c, a)
			} else {
				c = someCommand(r, ids)
			}
			a = b.r.Do(c)
			now := b.r.State()
			answers[fmt.Sprint(c.Kind, " ", a.Err)]++
			steps := a.N > 0 || now.Seq.Kind != 0 && s.Seq.Kind == 0
			switch {
			case a.Err == api.OK && a.Id != none:
				ids = append(ids, a.Id)
			case a.Err == api.ErrConflict:
				if len(a.Clashes) == 0 || c.Kind != api.CMerge && !now.Seq.Stopped {
					t.Fatalf("%+v: %+v", c, a)
				}
			case a.Err != api.OK && !steps && !refs.Same(s, now):
				t.Fatalf("%+v: %+v, but the state was changed", c, a)
			}
			if busy := now.Seq.Kind != 0; busy && b.at(now.Seq.Branch) != now.Seq.Cur {
				t.Fatal("the branch is not where the sequence is")
			}
			b.whole()
			if r.Intn(10) == 0 {
				b.f.Crash(r.Intn(9), r.Intn(9))
				b.open()
				if !refs.Same(now, b.r.State()) {
					t.Fatal("opening again tells another state")
				}
			}
		}
	}
	for _, k := range []int{api.CCommit, api.CBranch, api.CDelete, api.CSwitch, api.CMerge, api.CPick, api.CRebase, api.CContinue, api.CSkip, api.CAbort, api.CCollect, api.CRepack} {
		if answers[fmt.Sprint(k, " ok")] == 0 {
			t.Errorf("command %d was never done", k)
		}
	}
}
