package repo

import (
	"errors"
	"sync"

	"selvage/api"
	"selvage/codec"
	"selvage/store"
	"selvage/tree"
)

// held is what was read, once.
type held[T any] struct {
	once  sync.Once
	value T
	err   api.Errno
}

func (h *held[T]) get(read func() (T, api.Errno)) (T, api.Errno) {
	h.once.Do(func() { h.value, h.err = read() })
	return h.value, h.err
}

// known is what a reader has of a commit.
type known struct {
	commit held[api.Commit]
	files  held[[]api.File]
}

// reader reads commits and their trees for one command, each once.
type reader struct {
	store *store.Store
	known map[api.Id]*known
}

func newReader(s *store.Store) *reader {
	return &reader{store: s, known: map[api.Id]*known{}}
}

func (r *reader) of(i api.Id) *known {
	k := r.known[i]
	if k == nil {
		k = &known{}
		r.known[i] = k
	}
	return k
}

func (r *reader) commit(i api.Id) (api.Commit, api.Errno) {
	return r.of(i).commit.get(func() (api.Commit, api.Errno) {
		o, e := r.store.Get(i)
		if e != api.OK {
			return api.Commit{}, e
		}
		if o.Kind != api.OCommit {
			return api.Commit{}, api.ErrKind
		}
		return codec.ParseCommit(o.Body)
	})
}

func (r *reader) files(i api.Id) ([]api.File, api.Errno) {
	return r.of(i).files.get(func() ([]api.File, api.Errno) {
		c, e := r.commit(i)
		if e != api.OK {
			return nil, e
		}
		return tree.Read(r.store, c.Tree)
	})
}

// source is a reader as the layers of histories ask it.
type source struct {
	*reader
}

func (s source) Parents(i api.Id) ([]api.Id, error) {
	c, e := s.commit(i)
	if e != api.OK {
		return nil, unread{e}
	}
	return c.Parents, nil
}

func (s source) Tree(i api.Id) ([]api.File, error) {
	l, e := s.files(i)
	if e != api.OK {
		return nil, unread{e}
	}
	return l, nil
}

// unread is the error of a commit that could not be read.
type unread struct {
	e api.Errno
}

func (u unread) Error() string { return "unread: " + u.e.Error() }
func (u unread) Unwrap() error { return u.e }

// errno tells the number of an error that the layers of histories answered.
func errno(err error) api.Errno {
	var e api.Errno
	switch {
	case err == nil:
		return api.OK
	case errors.As(err, &e):
		return e
	}
	return api.ErrBad
}
