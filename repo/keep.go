package repo

import (
	"bytes"
	"slices"

	"selvage/api"
	"selvage/codec"
)

func (x *run) collect() api.Answer {
	l, e := x.hanging()
	if e != api.OK {
		return refused(e)
	}
	n, e := x.Repo.store.Keep(l...)
	return api.Answer{Err: e, N: n}
}

func (x *run) repack() api.Answer {
	l, e := x.Repo.store.All()
	if e != api.OK {
		return refused(e)
	}
	if _, e = x.Repo.store.Keep(l...); e != api.OK {
		return refused(e)
	}
	return api.Answer{N: len(l)}
}

func (x *run) readAgain() api.Answer {
	again, e := Open(x.disk)
	if e != api.OK {
		return refused(e)
	}
	l, e := again.Objects()
	if e != api.OK {
		return refused(e)
	}
	x.Repo.store, x.Repo.book = again.store, again.book
	return api.Answer{N: len(l)}
}

// roots tells the commits that the state names.
func roots(s api.State) []api.Id {
	l := []api.Id{s.Seq.Orig, s.Seq.Cur}
	for _, r := range s.Refs {
		l = append(l, r.Id)
	}
	for _, log := range s.Logs {
		for _, line := range log.Lines {
			l = append(l, line.Old, line.New)
		}
	}
	for _, step := range s.Seq.Todo {
		l = append(l, step.Id)
	}
	return l
}

// hanging tells all that hangs on roots, rising.
func (x *run) hanging() ([]api.Id, api.Errno) {
	w := &hanging{found: map[api.Id]struct{}{}}
	w.add(roots(x.state)...)
	for len(w.rest) > 0 {
		i := w.rest[len(w.rest)-1]
		w.rest = w.rest[:len(w.rest)-1]
		o, e := x.Repo.store.Get(i)
		if e != api.OK {
			return nil, e
		}
		if e = w.goInto(o); e != api.OK {
			return nil, e
		}
	}
	l := make([]api.Id, 0, len(w.found))
	for i := range w.found {
		l = append(l, i)
	}
	slices.SortFunc(l, func(a, b api.Id) int { return bytes.Compare(a[:], b[:]) })
	return l, api.OK
}

// hanging is what was found, and what of it was not gone into yet.
type hanging struct {
	found map[api.Id]struct{}
	rest  []api.Id
}

func (w *hanging) add(l ...api.Id) {
	for _, i := range l {
		if w.leaf(i) {
			w.rest = append(w.rest, i)
		}
	}
}

// leaf finds an object into which nobody needs to go, and tells whether it is a new one.
func (w *hanging) leaf(i api.Id) bool {
	_, is := w.found[i]
	if is || isNone(i) {
		return false
	}
	w.found[i] = struct{}{}
	return true
}

// goInto finds what an object names.
func (w *hanging) goInto(o api.Obj) api.Errno {
	switch o.Kind {
	case api.OCommit:
		c, e := codec.ParseCommit(o.Body)
		if e != api.OK {
			return e
		}
		w.add(c.Tree)
		w.add(c.Parents...)
	case api.OTree:
		l, e := codec.ParseTree(o.Body)
		if e != api.OK {
			return e
		}
		for _, x := range l {
			if x.Kind == api.KTree {
				w.add(x.Id)
			} else {
				w.leaf(x.Id)
			}
		}
	}
	return api.OK
}
