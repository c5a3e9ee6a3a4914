package repo

import (
	"sync/atomic"

	"selvage/api"
	"selvage/codec"
	"selvage/refs"
	"selvage/tree"
)

// run is a command as it is done.
type run struct {
	*Repo
	api.Cmd
	*reader
	state api.State
	head  api.Id       // where the head's reference stands
	steps atomic.Int64 // of a sequence, that this command has done
}

// look tells the run the state as it is now.
func (x *run) look() {
	x.state = x.book.State()
	x.head, _ = x.at(x.state.Head)
}

// at tells where a reference stands.
func (x *run) at(name string) (api.Id, bool) {
	for _, r := range x.state.Refs {
		if r.Name == name {
			return r.Id, true
		}
	}
	return api.Id{}, false
}

func isNone(i api.Id) bool { return i == api.Id{} }

func refused(e api.Errno) api.Answer { return api.Answer{Err: e} }

// done tells the answer of a command that has an Id to tell, unless it failed.
func done(i api.Id, e api.Errno) api.Answer {
	if e != api.OK {
		return refused(e)
	}
	return api.Answer{Id: i}
}

// mayNot tells what speaks against a command as things stand, whatever it names.
func (x *run) mayNot() api.Errno {
	busy := x.state.Seq.Kind != 0
	switch {
	case x.Cmd.Kind < api.CInit || x.Cmd.Kind > api.CRecover:
		return api.ErrKind
	case x.Cmd.Kind == api.CInit || x.Cmd.Kind >= api.CCollect:
		return api.OK
	case x.state.Head == "":
		return api.ErrNone
	}
	switch x.Cmd.Kind {
	case api.CPick, api.CRebase:
		if !busy && isNone(x.head) {
			return api.ErrNone
		}
		fallthrough
	case api.CCommit, api.CDelete, api.CSwitch, api.CMerge, api.CReset:
		if busy {
			return api.ErrBusy
		}
	case api.CContinue, api.CSkip, api.CAbort:
		if !busy {
			return api.ErrIdle
		}
	}
	return api.OK
}

func (x *run) do() api.Answer {
	switch x.Cmd.Kind {
	case api.CInit:
		return x.start()
	case api.CCommit:
		return x.commitFiles()
	case api.CBranch:
		return x.branch()
	case api.CDelete:
		return x.remove()
	case api.CSwitch:
		return x.switchTo()
	case api.CMerge:
		return x.merge()
	case api.CPick:
		return x.pick()
	case api.CRebase:
		return x.rebase()
	case api.CContinue:
		return x.goOnResolved()
	case api.CSkip:
		return x.skip()
	case api.CAbort:
		return x.abort()
	case api.CReset:
		return x.reset()
	case api.CCollect:
		return x.collect()
	case api.CRepack:
		return x.repack()
	}
	return x.readAgain()
}

// tx does a transaction.
func (x *run) tx(t api.Tx) api.Errno {
	e := x.book.Do(t)
	if e == api.OK {
		x.look()
	}
	return e
}

// move moves a branch from where it stands.
func (x *run) move(name string, to api.Id, why string) api.Errno {
	return x.tx(api.Tx{Moves: []api.Move{x.moveOf(name, to, why)}})
}

func (x *run) moveOf(name string, to api.Id, why string) api.Move {
	old, _ := x.at(name)
	return api.Move{Name: name, Old: old, New: to, Why: why}
}

// commitOf tells a commit's object, and its Id.
func commitOf(c api.Commit) (api.Obj, api.Id, api.Errno) {
	body, e := codec.EncodeCommit(c)
	if e != api.OK {
		return api.Obj{}, api.Id{}, e
	}
	o := api.Obj{Kind: api.OCommit, Body: body}
	i, e := codec.Id(o)
	return o, i, e
}

// put puts a tree and its commit, then does the transaction that makes them stand. What speaks against that is asked ahead, so that what is refused has put nothing.
func (x *run) put(files []api.File, commit api.Obj, t api.Tx) api.Errno {
	if e := refs.Check(x.state, t); e != api.OK {
		return e
	}
	if _, e := tree.Write(x.Repo.store, files); e != api.OK {
		return e
	}
	if _, e := x.Repo.store.Put(commit); e != api.OK {
		return e
	}
	return x.tx(t)
}

// makeCommit makes a commit, and moves the head's branch to it.
func (x *run) makeCommit(c api.Commit, files []api.File, why string, mem []api.Memory) api.Answer {
	o, i, e := commitOf(c)
	if e != api.OK {
		return refused(e)
	}
	t := api.Tx{Moves: []api.Move{x.moveOf(x.state.Head, i, why)}, Mem: mem}
	return done(i, x.put(files, o, t))
}
