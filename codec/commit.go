package codec

import (
	"slices"

	"selvage/api"
)

// EncodeCommit tells the bytes of a commit's body.
func EncodeCommit(c api.Commit) ([]byte, api.Errno) {
	if e := checkCommit(c); e != api.OK {
		return nil, e
	}
	b := append([]byte(nil), c.Tree[:]...)
	b = append(b, byte(len(c.Parents)))
	for _, p := range c.Parents {
		b = append(b, p[:]...)
	}
	b = text(b, c.Author, 2)
	b = number(b, uint64(c.Time), 8)
	return text(b, c.Message, 2), api.OK
}

func checkCommit(c api.Commit) api.Errno {
	switch {
	case c.Tree == api.Id{}:
		return api.ErrArg
	case len(c.Parents) > api.MaxParents:
		return api.ErrMany
	}
	for k, p := range c.Parents {
		if e := checkParent(p, c.Parents[:k]); e != api.OK {
			return e
		}
	}
	if len(c.Author) > api.MaxText || len(c.Message) > api.MaxText {
		return api.ErrLong
	}
	return api.OK
}

// checkParent tells why a parent may not stand behind those ahead.
func checkParent(p api.Id, ahead []api.Id) api.Errno {
	switch {
	case p == api.Id{}:
		return api.ErrArg
	case slices.Contains(ahead, p):
		return api.ErrOrder
	}
	return api.OK
}

// ParseCommit reads what EncodeCommit tells.
func ParseCommit(b []byte) (api.Commit, api.Errno) {
	r := &commitReader{reader: reader{b: b}}
	c := r.commit()
	if !r.ok() {
		return api.Commit{}, r.failed
	}
	return c, api.OK
}

type commitReader struct {
	reader
}

func (r *commitReader) commit() api.Commit {
	var c api.Commit
	c.Tree = r.id()
	if c.Tree == (api.Id{}) {
		r.fail(api.ErrArg)
	}
	c.Parents = r.parents()
	c.Author = r.text(2, api.MaxText)
	for _, x := range r.take(8) {
		c.Time = c.Time<<8 | int64(x)
	}
	c.Message = r.text(2, api.MaxText)
	r.end()
	return c
}

func (r *commitReader) parents() []api.Id {
	n := r.number(1)
	if n > api.MaxParents {
		r.fail(api.ErrMany)
	}
	var l []api.Id
	for k := 0; k < n && r.ok(); k++ {
		p := r.id()
		r.fail(checkParent(p, l))
		l = append(l, p)
	}
	return l
}

// SameCommit tells whether two commits are the same in everything.
func SameCommit(a, b api.Commit) bool {
	return a.Tree == b.Tree && slices.Equal(a.Parents, b.Parents) &&
		a.Author == b.Author && a.Time == b.Time && a.Message == b.Message
}
