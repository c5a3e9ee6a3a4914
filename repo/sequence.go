package repo

import (
	"selvage/api"
	"selvage/graph"
	"selvage/seq"
	"selvage/tree"
	"selvage/treemerge"
)

// checkTodo tells why the command's steps may not be.
func (x *run) checkTodo() api.Errno {
	if len(x.Todo) > api.MaxTodo {
		return api.ErrMany
	}
	for _, step := range x.Todo {
		if step.Do < api.TPick || step.Do > api.TSquash {
			return api.ErrKind
		}
		c, e := x.commit(step.Id)
		if e != api.OK {
			return e
		}
		if len(c.Parents) > 1 {
			return api.ErrArg
		}
	}
	return api.OK
}

func (x *run) pick() api.Answer {
	if e := x.checkTodo(); e != api.OK {
		return refused(e)
	}
	if len(x.Todo) == 0 {
		return refused(api.ErrArg)
	}
	return x.begin(api.SPick, x.head, x.Todo)
}

func (x *run) rebase() api.Answer {
	if _, e := x.commit(x.At); e != api.OK {
		return refused(e)
	}
	if e := x.checkTodo(); e != api.OK {
		return refused(e)
	}
	todo := x.Todo
	if len(todo) == 0 {
		var e api.Errno
		if todo, e = x.own(); e != api.OK {
			return refused(e)
		}
	}
	switch {
	case len(todo) > 0:
		return x.begin(api.SRebase, x.At, todo)
	case x.At == x.head:
		return refused(api.ErrSame)
	}
	return done(x.At, x.move(x.state.Head, x.At, "rebase"))
}

// own tells steps that pick all that the head's branch has of its own, but for merges.
func (x *run) own() ([]api.Todo, api.Errno) {
	l, err := graph.Order(source{x.reader}, []api.Id{x.head}, []api.Id{x.At})
	if err != nil {
		return nil, errno(err)
	}
	var todo []api.Todo
	for _, i := range l {
		c, e := x.commit(i)
		if e != api.OK {
			return nil, e
		}
		if len(c.Parents) <= 1 {
			todo = append(todo, api.Todo{Do: api.TPick, Id: i})
		}
	}
	if len(todo) > api.MaxTodo {
		return nil, api.ErrMany
	}
	return todo, api.OK
}

func (x *run) begin(kind int, cur api.Id, todo []api.Todo) api.Answer {
	branch := x.state.Head
	t := api.Tx{HasSeq: true, Seq: api.Seq{Kind: kind, Branch: branch, Orig: x.head, Cur: cur, Todo: todo}}
	if cur != x.head {
		t.Moves = []api.Move{x.moveOf(branch, cur, "rebase")}
	}
	if e := x.tx(t); e != api.OK {
		return refused(e)
	}
	return x.goOn(branch)
}

// goOnResolved does the step that the sequence stopped at, and goes on.
func (x *run) goOnResolved() api.Answer {
	s := x.state.Seq
	if !s.Stopped {
		if len(x.Files) > 0 {
			return refused(api.ErrArg)
		}
		return x.goOn(s.Branch)
	}
	clashes, e := x.step(s, x.Files)
	switch e {
	case api.OK:
		return x.goOn(s.Branch)
	case api.ErrConflict:
		return api.Answer{Err: e, Clashes: clashes, Id: s.Cur}
	}
	return refused(e)
}

func (x *run) skip() api.Answer {
	s := x.state.Seq
	if e := x.drop(s); e != api.OK {
		return refused(e)
	}
	return x.goOn(s.Branch)
}

func (x *run) abort() api.Answer {
	s := x.state.Seq
	t := api.Tx{HasSeq: true}
	if m := x.moveOf(s.Branch, s.Orig, "abort"); m.Old != m.New {
		t.Moves = []api.Move{m}
	}
	return done(s.Orig, x.tx(t))
}

// goOn does step by step, till nothing is left, or one stops.
func (x *run) goOn(branch string) api.Answer {
	for {
		s := x.state.Seq
		if _, is := seq.Next(s); !is {
			to, _ := x.at(branch)
			return api.Answer{Id: to, N: int(x.steps.Load())}
		}
		clashes, e := x.step(s, nil)
		if e == api.ErrConflict && !s.Stopped {
			if e2 := x.tx(api.Tx{HasSeq: true, Seq: seq.Stop(s)}); e2 != api.OK {
				clashes, e = nil, e2
			}
		}
		if e != api.OK {
			return api.Answer{Err: e, Clashes: clashes, Id: s.Cur, N: int(x.steps.Load())}
		}
	}
}

// step does the next step of s; of ErrConflict it tells the clashes that are left.
func (x *run) step(s api.Seq, files []api.File) ([]api.Clash, api.Errno) {
	next, _ := seq.Next(s)
	if next.Do == api.TDrop {
		if len(files) > 0 {
			return nil, api.ErrArg
		}
		return nil, x.drop(s)
	}
	m, e := x.mix(s.Cur, next.Id)
	if e != api.OK {
		return nil, e
	}
	if e = m.resolve(x.state.Mem, files); e != api.OK {
		return m.left(e), e
	}
	if e = x.lay(s, next, m); e != api.OK {
		return nil, e
	}
	x.steps.Add(1)
	return nil, api.OK
}

// drop does the next step of s by leaving it out.
func (x *run) drop(s api.Seq) api.Errno {
	e := x.tx(api.Tx{HasSeq: true, Seq: seq.Skip(s)})
	if e == api.OK {
		x.steps.Add(1)
	}
	return e
}

// mix merges what a commit changed into another one's tree.
func (x *run) mix(cur, picked api.Id) (*mixture, api.Errno) {
	c, e := x.commit(picked)
	if e != api.OK {
		return nil, e
	}
	var over []api.File
	if len(c.Parents) > 0 {
		if over, e = x.files(c.Parents[0]); e != api.OK {
			return nil, e
		}
	}
	ours, e := x.files(cur)
	if e != api.OK {
		return nil, e
	}
	theirs, e := x.files(picked)
	if e != api.OK {
		return nil, e
	}
	files, clashes, e := treemerge.Merge(over, ours, theirs)
	return &mixture{files: files, clashes: clashes}, e
}

// lay makes the commit of a step, if there is one to make, and lets the sequence be behind it.
func (x *run) lay(s api.Seq, step api.Todo, m *mixture) api.Errno {
	_, root, e := tree.Objects(m.files)
	if e != api.OK {
		return e
	}
	cur, e := x.commit(s.Cur)
	if e != api.OK {
		return e
	}
	c, e := x.commit(step.Id)
	if e != api.OK {
		return e
	}
	why := "pick"
	if step.Do == api.TSquash {
		c, why = squashed(cur, c), "squash"
	} else {
		c.Parents = []api.Id{s.Cur}
	}
	c.Tree = root
	o, i, e := commitOf(c)
	if e != api.OK {
		return e
	}
	if i == s.Cur || step.Do == api.TPick && root == cur.Tree {
		return x.tx(api.Tx{HasSeq: true, Seq: seq.Did(s, s.Cur, false), Mem: m.learned})
	}
	t := api.Tx{HasSeq: true, Seq: seq.Did(s, i, true), Mem: m.learned}
	t.Moves = []api.Move{x.moveOf(s.Branch, i, why)}
	return x.put(m.files, o, t)
}

// squashed tells the commit that takes cur's place when c goes into it.
func squashed(cur, c api.Commit) api.Commit {
	message := cur.Message + "\n" + c.Message
	cur.Message = message[:min(len(message), api.MaxText)]
	return cur
}
