package repo

import (
	"selvage/api"
	"selvage/base"
	"selvage/graph"
	"selvage/name"
	"selvage/tree"
)

func (x *run) start() api.Answer {
	switch {
	case x.state.Head != "":
		return refused(api.ErrIs)
	case name.Check(x.Name) != api.OK:
		return refused(api.ErrName)
	}
	return refused(x.tx(api.Tx{HasHead: true, Head: x.Name}))
}

// textsAreLong tells whether a commit of the command could not have its texts.
func (x *run) textsAreLong() bool {
	return len(x.Author) > api.MaxText || len(x.Text) > api.MaxText
}

func (x *run) commitFiles() api.Answer {
	if x.textsAreLong() {
		return refused(api.ErrLong)
	}
	_, root, e := tree.Objects(x.Files)
	if e != api.OK {
		return refused(e)
	}
	c := api.Commit{Tree: root, Author: x.Author, Time: x.Time, Message: x.Text}
	if !isNone(x.head) {
		had, e := x.commit(x.head)
		if e != api.OK {
			return refused(e)
		}
		if had.Tree == root {
			return refused(api.ErrSame)
		}
		c.Parents = []api.Id{x.head}
	}
	return x.makeCommit(c, x.Files, "commit", nil)
}

func (x *run) branch() api.Answer {
	if e := name.Check(x.Name); e != api.OK {
		return refused(e)
	}
	if _, is := x.at(x.Name); is {
		return refused(api.ErrIs)
	}
	to := x.At
	if isNone(to) {
		to = x.head
	}
	if isNone(to) {
		return refused(api.ErrNone)
	}
	if _, e := x.commit(to); e != api.OK {
		return refused(e)
	}
	return done(to, x.move(x.Name, to, "branch"))
}

func (x *run) remove() api.Answer {
	if _, is := x.at(x.Name); !is {
		return refused(api.ErrNone)
	}
	if x.Name == x.state.Head {
		return refused(api.ErrArg)
	}
	return refused(x.move(x.Name, api.Id{}, ""))
}

func (x *run) switchTo() api.Answer {
	to, is := x.at(x.Name)
	switch {
	case !is:
		return refused(api.ErrNone)
	case x.Name == x.state.Head:
		return refused(api.ErrSame)
	}
	return done(to, x.tx(api.Tx{HasHead: true, Head: x.Name}))
}

func (x *run) reset() api.Answer {
	if x.Old != x.head {
		return refused(api.ErrOld)
	}
	if _, e := x.commit(x.At); e != api.OK {
		return refused(e)
	}
	if x.At == x.head {
		return refused(api.ErrSame)
	}
	return done(x.At, x.move(x.state.Head, x.At, "reset"))
}

func (x *run) merge() api.Answer {
	if x.textsAreLong() {
		return refused(api.ErrLong)
	}
	to, is := x.at(x.Name)
	if !is {
		return refused(api.ErrNone)
	}
	forward := isNone(x.head)
	if !forward {
		above, err := graph.Above(source{x.reader}, to, x.head)
		if err != nil {
			return refused(errno(err))
		}
		if above {
			return refused(api.ErrSame)
		}
		if forward, err = graph.Above(source{x.reader}, x.head, to); err != nil {
			return refused(errno(err))
		}
	}
	if !forward {
		return x.mergeTrees(to)
	}
	if len(x.Files) > 0 {
		return refused(api.ErrArg)
	}
	return done(to, x.move(x.state.Head, to, "merge"))
}

// mergeTrees merges two commits neither of which stands above the other one.
func (x *run) mergeTrees(to api.Id) api.Answer {
	bases, err := graph.Bases(source{x.reader}, x.head, to)
	if err != nil {
		return refused(errno(err))
	}
	if len(bases) == 0 {
		return refused(api.ErrNoBase)
	}
	files, clashes, err := base.Merge(source{x.reader}, x.head, to)
	if err != nil {
		return refused(errno(err))
	}
	m := &mixture{files: files, clashes: clashes}
	if e := m.resolve(x.state.Mem, x.Files); e != api.OK {
		return api.Answer{Err: e, Clashes: m.left(e)}
	}
	_, root, e := tree.Objects(m.files)
	if e != api.OK {
		return refused(e)
	}
	c := api.Commit{Tree: root, Parents: []api.Id{x.head, to}, Author: x.Author, Time: x.Time, Message: x.Text}
	return x.makeCommit(c, m.files, "merge", m.learned)
}
