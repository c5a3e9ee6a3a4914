package repo_test

import (
	"fmt"
	"slices"
	"strings"
	"testing"

	"selvage/api"
	"selvage/refs"
	"selvage/repo"
	"selvage/simfs"
)

var none api.Id

// files reads those of a text: path=bytes, a line for each byte of them but `-` for none; path*= is KExec, path@= is KLink.
func files(s string) []api.File {
	var l []api.File
	for _, x := range strings.Fields(s) {
		path, data, _ := strings.Cut(x, "=")
		f := api.File{Kind: api.KFile}
		if strings.HasSuffix(path, "*") {
			f.Kind = api.KExec
		}
		if strings.HasSuffix(path, "@") {
			f.Kind = api.KLink
		}
		f.Path = strings.TrimRight(path, "*@")
		for _, c := range strings.Trim(data, "-") {
			f.Data = append(f.Data, byte(c), '\n')
		}
		l = append(l, f)
	}
	slices.SortFunc(l, func(a, b api.File) int { return strings.Compare(a.Path, b.Path) })
	return l
}

// told tells files as files reads them.
func told(l []api.File) string {
	var out []string
	for _, f := range l {
		data := strings.ReplaceAll(string(f.Data), "\n", "")
		if data == "" {
			data = "-"
		}
		out = append(out, f.Path+[]string{"", "", "*", "@"}[f.Kind]+"="+data)
	}
	return strings.Join(out, " ")
}

func toldClashes(l []api.Clash) string {
	var out []string
	for _, c := range l {
		out = append(out, fmt.Sprint(c.Path, ":", c.Why))
	}
	return strings.Join(out, " ")
}

// box is a repository and its disk.
type box struct {
	t *testing.T
	f *simfs.FS
	r *repo.Repo
}

func empty(t *testing.T) *box {
	t.Helper()
	f, _ := simfs.New(1<<40, 1<<40)
	b := &box{t: t, f: f}
	b.open()
	return b
}

// newBox tells one whose head is main.
func newBox(t *testing.T) *box {
	t.Helper()
	b := empty(t)
	b.ok(api.Cmd{Kind: api.CInit, Name: "main"})
	return b
}

func (b *box) open() {
	b.t.Helper()
	r, e := repo.Open(b.f)
	if e != api.OK {
		b.t.Fatal(e)
	}
	b.r = r
}

// ok does what must go well.
func (b *box) ok(c api.Cmd) api.Answer {
	b.t.Helper()
	a := b.r.Do(c)
	if a.Err != api.OK || len(a.Clashes) != 0 {
		b.t.Fatalf("command %d %q: %v %s", c.Kind, c.Name, a.Err, toldClashes(a.Clashes))
	}
	return a
}

// no does what must be refused, and asks that nothing was changed by it.
func (b *box) no(want api.Errno, c api.Cmd) {
	b.t.Helper()
	s, ops := b.r.State(), b.f.Ops()
	a := b.r.Do(c)
	if a.Err != want || a.Id != none || a.N != 0 || len(a.Clashes) != 0 {
		b.t.Errorf("command %d %q: %+v, not %v", c.Kind, c.Name, a, want)
	}
	if !refs.Same(s, b.r.State()) || b.f.Ops() != ops {
		b.t.Errorf("command %d %q: it was refused, but changed something", c.Kind, c.Name)
	}
}

// clash does what must clash.
func (b *box) clash(want string, c api.Cmd) api.Answer {
	b.t.Helper()
	a := b.r.Do(c)
	if a.Err != api.ErrConflict || toldClashes(a.Clashes) != want {
		b.t.Fatalf("command %d: %v %s, not %s", c.Kind, a.Err, toldClashes(a.Clashes), want)
	}
	return a
}

func commit(s string) api.Cmd {
	return api.Cmd{Kind: api.CCommit, Author: "me", Time: int64(len(s)), Text: s[:min(len(s), 100)], Files: files(s)}
}

func (b *box) commit(s string) api.Id {
	b.t.Helper()
	return b.ok(commit(s)).Id
}

func (b *box) branch(name string) {
	b.t.Helper()
	b.ok(api.Cmd{Kind: api.CBranch, Name: name})
}

func (b *box) switchTo(name string) {
	b.t.Helper()
	b.ok(api.Cmd{Kind: api.CSwitch, Name: name})
}

func (b *box) at(name string) api.Id {
	for _, r := range b.r.State().Refs {
		if r.Name == name {
			return r.Id
		}
	}
	return none
}

// log tells the words of a reference's.
func (b *box) log(name string) string {
	for _, l := range b.r.State().Logs {
		if l.Name != name {
			continue
		}
		var out []string
		for _, x := range l.Lines {
			out = append(out, x.Why)
		}
		return strings.Join(out, " ")
	}
	return "none"
}

func (b *box) tree(i api.Id) string {
	b.t.Helper()
	l, e := b.r.Tree(i)
	if e != api.OK {
		b.t.Fatal(e)
	}
	return told(l)
}

func (b *box) read(i api.Id) api.Commit {
	b.t.Helper()
	c, e := b.r.Commit(i)
	if e != api.OK {
		b.t.Fatal(e)
	}
	return c
}

// stands asks that the head stands at a commit of that tree and those parents.
func (b *box) stands(tree string, parents ...api.Id) {
	b.t.Helper()
	i := b.at(b.r.State().Head)
	if got := b.tree(i); got != tree || !slices.Equal(b.read(i).Parents, parents) {
		b.t.Errorf("the head stands at %s, not %s, or its parents are others", got, tree)
	}
}

// whole asks that all that hangs on roots can be read.
func (b *box) whole() {
	b.t.Helper()
	s := b.r.State()
	l := []api.Id{s.Seq.Orig, s.Seq.Cur}
	for _, x := range s.Seq.Todo {
		l = append(l, x.Id)
	}
	for _, x := range s.Refs {
		l = append(l, x.Id)
	}
	for _, x := range s.Logs {
		for _, line := range x.Lines {
			l = append(l, line.Old, line.New)
		}
	}
	seen := map[api.Id]bool{none: true}
	for len(l) > 0 {
		i := l[0]
		l = l[1:]
		if seen[i] {
			continue
		}
		seen[i] = true
		b.tree(i)
		l = append(l, b.read(i).Parents...)
	}
}

func todo(l ...any) []api.Todo {
	var out []api.Todo
	for k := 0; k < len(l); k += 2 {
		out = append(out, api.Todo{Do: l[k].(int), Id: l[k+1].(api.Id)})
	}
	return out
}
