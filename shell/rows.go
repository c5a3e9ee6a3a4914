package shell

import (
	"strconv"
	"strings"

	"selvage/api"
	"selvage/repo"
	"selvage/sum"
)

func lay(m map[string]api.File, kind int, a args) string {
	f := api.File{Path: a.texts[0], Kind: kind}
	if len(a.texts) > 1 {
		f.Data = []byte(a.texts[1])
	}
	m[f.Path] = f
	return wordOk
}

func (p *player) file(a args) string    { return lay(p.laid, api.KFile, a) }
func (p *player) exec(a args) string    { return lay(p.laid, api.KExec, a) }
func (p *player) link(a args) string    { return lay(p.laid, api.KLink, a) }
func (p *player) solve(a args) string   { return lay(p.solved, api.KFile, a) }
func (p *player) unsolve(a args) string { return lay(p.solved, 0, a) }

func (p *player) drop(a args) string {
	path := a.texts[0]
	if _, is := p.laid[path]; !is {
		return wordNone
	}
	delete(p.laid, path)
	return wordOk
}

// do does a command of the repository, and tells its answer.
func (p *player) do(c api.Cmd) string {
	a := p.repo.Do(c)
	if a.Err == api.OK {
		p.id = a.Id
	}
	return tell(a)
}

func tell(a api.Answer) string {
	s := a.Err.Error()
	switch a.Err {
	case api.OK:
		if a.Id != (api.Id{}) {
			s += " " + sum.Hex(a.Id)
		}
		if a.N != 0 {
			s += " :" + strconv.Itoa(a.N)
		}
	case api.ErrConflict:
		for _, c := range a.Clashes {
			s += " " + Quote([]byte(c.Path)) + ":" + strconv.Itoa(c.Why)
		}
	}
	return s
}

// bare tells what a command without words does.
func (p *player) bare(kind int) func(a args) string {
	return func(args) string { return p.do(api.Cmd{Kind: kind}) }
}

func (p *player) begin(a args) string {
	return p.do(api.Cmd{Kind: api.CInit, Name: a.texts[0]})
}

func (p *player) commit(a args) string {
	return p.do(api.Cmd{Kind: api.CCommit, Author: a.texts[0], Time: int64(a.numbers[0]), Text: a.texts[1], Files: files(p.laid)})
}

func (p *player) branch(a args) string {
	return p.do(api.Cmd{Kind: api.CBranch, Name: a.texts[0], At: a.ids[0]})
}

func (p *player) remove(a args) string {
	return p.do(api.Cmd{Kind: api.CDelete, Name: a.texts[0]})
}

func (p *player) switchTo(a args) string {
	return p.do(api.Cmd{Kind: api.CSwitch, Name: a.texts[0]})
}

func (p *player) merge(a args) string {
	return p.resolving(api.Cmd{Kind: api.CMerge, Name: a.texts[0], Author: a.texts[1], Time: int64(a.numbers[0]), Text: a.texts[2]})
}

func (p *player) goOn(args) string {
	return p.resolving(api.Cmd{Kind: api.CContinue})
}

// resolving does a command with what resolves; when that is done nothing resolves any more.
func (p *player) resolving(c api.Cmd) string {
	c.Files = files(p.solved)
	a := p.repo.Do(c)
	if a.Err == api.OK {
		p.id = a.Id
		clear(p.solved)
	}
	return tell(a)
}

func (p *player) pick(a args) string {
	return p.do(api.Cmd{Kind: api.CPick, Todo: a.todo})
}

func (p *player) rebase(a args) string {
	return p.do(api.Cmd{Kind: api.CRebase, At: a.ids[0], Todo: a.todo})
}

func (p *player) reset(a args) string {
	return p.do(api.Cmd{Kind: api.CReset, At: a.ids[0], Old: a.ids[1]})
}

func (p *player) crash(a args) string {
	p.disk.Crash(a.numbers...)
	r, e := repo.Open(p.disk)
	if e != api.OK {
		return e.Error()
	}
	p.repo = r
	return wordOk
}

func (p *player) head(args) string {
	if s := p.repo.State().Head; s != "" {
		return s
	}
	return wordNone
}

func (p *player) refs(args) string {
	s := wordOk
	for _, r := range p.repo.State().Refs {
		s += " " + r.Name + ":" + sum.Hex(r.Id)
	}
	return s
}

func (p *player) log(a args) string {
	for _, l := range p.repo.State().Logs {
		if l.Name != a.texts[0] {
			continue
		}
		s := wordOk
		for k := len(l.Lines) - 1; k >= 0; k-- {
			x := l.Lines[k]
			s += " " + sum.Hex(x.Old) + ":" + sum.Hex(x.New) + ":" + x.Why
		}
		return s
	}
	return wordNone
}

func (p *player) show(a args) string {
	l, e := p.repo.Tree(a.ids[0])
	if e != api.OK {
		return e.Error()
	}
	var s strings.Builder
	s.WriteString(wordOk)
	for _, f := range l {
		s.WriteString(" " + Quote([]byte(f.Path)) + ":" + kindOf(f) + ":" + Quote(f.Data))
	}
	return s.String()
}

func kindOf(f api.File) string {
	switch f.Kind {
	case api.KExec:
		return "x"
	case api.KLink:
		return "l"
	}
	return "f"
}

func (p *player) seq(args) string {
	x := p.repo.State().Seq
	word := "pick"
	switch x.Kind {
	case 0:
		return "idle"
	case api.SRebase:
		word = "rebase"
	}
	word += " " + strconv.Itoa(x.Done) + "/" + strconv.Itoa(len(x.Todo))
	if x.Stopped {
		word += " stopped"
	}
	return word
}
