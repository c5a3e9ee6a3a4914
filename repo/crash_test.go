package repo_test

import (
	"math/rand"
	"slices"
	"testing"

	"selvage/api"
	"selvage/refs"
	"selvage/repo"
)

// history tells commands of all kinds, one behind the other, each of which can be done.
func history(t *testing.T) []api.Cmd {
	b := empty(t)
	var l []api.Cmd
	do := func(c api.Cmd, want api.Errno) api.Answer {
		t.Helper()
		a := b.r.Do(c)
		if a.Err != want {
			t.Fatalf("command %d: %v", c.Kind, a.Err)
		}
		l = append(l, c)
		return a
	}
	do(api.Cmd{Kind: api.CInit, Name: "main"}, 0)
	do(commit("f=abc"), 0)
	do(api.Cmd{Kind: api.CBranch, Name: "b"}, 0)
	one := do(commit("f=aXc"), 0).Id
	do(api.Cmd{Kind: api.CSwitch, Name: "b"}, 0)
	two := do(commit("f=abc g=1"), 0).Id
	three := do(commit("f=aYc g=1"), 0).Id
	do(api.Cmd{Kind: api.CRepack}, 0)
	do(merge("main", ""), api.ErrConflict)
	do(merge("main", "f=aZc"), 0)
	do(api.Cmd{Kind: api.CSwitch, Name: "main"}, 0)
	do(pick(1, two, 2, one, 1, three), 0) // known
	do(api.Cmd{Kind: api.CReset, Old: b.at("main"), At: one}, 0)
	four := do(commit("f=aQc h=1"), 0).Id
	do(api.Cmd{Kind: api.CBranch, Name: "w", At: three}, 0)
	do(api.Cmd{Kind: api.CSwitch, Name: "w"}, 0)
	do(api.Cmd{Kind: api.CRebase, At: four, Todo: todo(1, two, 1, three, 3, two)}, api.ErrConflict)
	do(api.Cmd{Kind: api.CCollect}, 0)
	do(resolved("f=aRc"), 0)
	do(pick(1, one, 1, four), api.ErrConflict)
	do(api.Cmd{Kind: api.CSkip}, api.ErrConflict)
	do(api.Cmd{Kind: api.CAbort}, 0)
	do(api.Cmd{Kind: api.CDelete, Name: "b"}, 0)
	do(api.Cmd{Kind: api.CCollect}, 0)
	do(api.Cmd{Kind: api.CRecover}, 0)
	return l
}

// played tells a box behind commands.
func played(t *testing.T, l []api.Cmd) *box {
	b := empty(t)
	for _, c := range l {
		b.r.Do(c)
	}
	return b
}

// TestCrashes cuts each command off at each operation, opening again too.
func TestCrashes(t *testing.T) { // T2, T3
	r := rand.New(rand.NewSource(24))
	l := history(t)
	for k, c := range l {
		b := played(t, l[:k])
		allowed := []api.State{b.r.State()}
		at := b.f.Ops()
		want := b.r.Do(c)
		ops := b.f.Ops() - at
		behind := b.r.State()
		var cut []*box
		for stop := 1; stop <= ops; stop++ {
			for range 3 {
				x := played(t, l[:k])
				x.f.Stop(stop)
				if a := x.r.Do(c); a.Err != api.ErrDead {
					t.Fatalf("command %d, stop %d: %v", k, stop, a.Err)
				}
				allowed = append(allowed, x.r.State()) // behind some of its steps
				cut = append(cut, x)
			}
		}
		allowed = append(allowed, behind)
		for n, x := range cut {
			var picks []int
			for range 12 {
				picks = append(picks, r.Intn(1<<20))
			}
			x.f.Crash(picks...)
			x.f.Stop(n % 6) // opening again may be cut off as well
			if _, e := repo.Open(x.f); e == api.ErrDead {
				x.f.Crash(picks[3:]...)
			}
			x.f.Stop(0)
			x.open()
			s := x.r.State()
			if !slices.ContainsFunc(allowed, func(a api.State) bool { return refs.Same(a, s) }) {
				t.Fatalf("command %d (kind %d), cut %d: another state: %+v", k, c.Kind, n, s)
			}
			x.whole()
			ops := x.f.Ops()
			x.open()
			if !refs.Same(s, x.r.State()) || x.f.Ops() != ops {
				t.Fatalf("command %d, cut %d: opening once more changes something", k, n)
			}
			if refs.Same(s, allowed[0]) && !refs.Same(s, behind) {
				if a := x.r.Do(c); a.Err != want.Err || a.Id != want.Id || a.N != want.N || !refs.Same(x.r.State(), behind) {
					t.Fatalf("command %d, cut %d: done again it answers %v", k, n, a)
				}
			}
		}
	}
}

// TestSequencesAgree holds where sequences lead, with resolutions, against picks one by one.
func TestSequencesAgree(t *testing.T) { // T4
	r := rand.New(rand.NewSource(25))
	for range 60 {
		var texts []string
		for range 4 {
			texts = append(texts, "f=a"+string("bXYZ"[r.Intn(4)])+"c"+" g="+string("12"[r.Intn(2)])+" h="+string("12"[r.Intn(2)]))
		}
		texts = slices.Compact(texts)
		b, l := rows(t, "f=abc", "f=aWc", texts...)
		h := b.at("main")
		solve := func(a api.Answer) string {
			s := ""
			for _, c := range a.Clashes {
				s += " " + c.Path + "=aRc"
			}
			return s
		}
		var steps []any
		for _, i := range l {
			steps = append(steps, 1, i)
		}
		stops := 0
		for a := b.r.Do(pick(steps...)); a.Err != api.OK; stops++ {
			if a.Err != api.ErrConflict || stops > len(l) {
				t.Fatal(a)
			}
			if s := solve(a); stops%2 == 0 {
				a = b.r.Do(resolved(s))
			} else {
				a = b.r.Do(api.Cmd{Kind: api.CSkip})
			}
		}
		end := b.at("main")
		b.ok(api.Cmd{Kind: api.CBranch, Name: "two", At: h})
		other, _ := rows(t, "f=abc", "f=aWc", texts...)
		stops = 0
		for _, i := range l {
			a := other.r.Do(pick(1, i))
			if a.Err == api.OK {
				continue
			}
			if s := solve(a); stops%2 == 0 {
				other.ends(resolved(s), 1)
			} else {
				other.ends(api.Cmd{Kind: api.CSkip}, 1)
			}
			stops++
		}
		if other.at("main") != end {
			t.Fatalf("%q: %s, not %s", texts, b.tree(end), other.tree(other.at("main")))
		}
	}
}
