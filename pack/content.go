package pack

import (
	"bytes"
	"slices"
	"sync"

	"selvage/api"
	"selvage/delta"
	"selvage/sum"
)

// content is what was read of a pack, worked out once.
type content struct {
	once    sync.Once
	b       []byte
	objects []api.Obj
	ids     []api.Id
	failed  api.Errno
}

func (c *content) read() {
	c.once.Do(c.work)
}

func (c *content) find(i api.Id) (api.Obj, api.Errno) {
	c.read()
	if c.failed != api.OK {
		return api.Obj{}, c.failed
	}
	k := slices.Index(c.ids, i)
	if k < 0 {
		return api.Obj{}, api.ErrNone
	}
	return c.objects[k], api.OK
}

// work reads the entries as they stand. Whether all of it is as Build makes it, Build itself tells best.
func (c *content) work() {
	c.failed = api.ErrBad
	objects, ok := entries(c.b)
	if !ok {
		return
	}
	again, e := Build(objects...)
	if e != api.OK || !bytes.Equal(again, c.b) {
		return
	}
	c.objects, c.failed = objects, api.OK
	ids := again[idsAt:]
	for k := range objects {
		c.ids = append(c.ids, api.Id(ids[k*idSize:(k+1)*idSize]))
	}
}

const (
	headSize  = len(word) + 4
	idsAt     = headSize + 4*256
	entryHead = 1 + 4 + 4
)

// entries reads the objects of bytes that may be a pack.
func entries(b []byte) ([]api.Obj, bool) {
	end := len(b) - idSize
	if end < idsAt || !bytes.HasPrefix(b, []byte(word)) || sum.Of(b[:end]) != api.Id(b[end:]) {
		return nil, false
	}
	n := numberAt(b, len(word))
	if n > (end-idsAt)/(idSize+4+entryHead) {
		return nil, false
	}
	var l []api.Obj
	rest := b[idsAt+n*(idSize+4) : end]
	for range n {
		o, size, ok := entry(rest, l)
		if !ok {
			return nil, false
		}
		l = append(l, o)
		rest = rest[size:]
	}
	return l, len(rest) == 0
}

// entry reads the first one of b, which stands behind the objects ahead, and tells how many bytes it has.
func entry(b []byte, ahead []api.Obj) (api.Obj, int, bool) {
	if len(b) < entryHead {
		return api.Obj{}, 0, false
	}
	base, size := numberAt(b, 1), numberAt(b, 5)
	if size > len(b)-entryHead {
		return api.Obj{}, 0, false
	}
	o := api.Obj{Kind: kindOf(b[0])}
	body := b[entryHead : entryHead+size]
	switch {
	case base == 0:
		o.Body = bytes.Clone(body)
	case base != len(ahead) || tooLong(body):
		return api.Obj{}, 0, false
	default:
		var e api.Errno
		o.Body, e = delta.Apply(ahead[base-1].Body, body)
		if e != api.OK {
			return api.Obj{}, 0, false
		}
	}
	return o, entryHead + size, true
}

// tooLong tells whether a delta would make more bytes than any object has: few bytes may tell of very many.
func tooLong(d []byte) bool {
	return len(d) < 8 || numberAt(d, 4) > api.MaxBlob
}

func kindOf(letter byte) int {
	switch letter {
	case 'b':
		return api.OBlob
	case 't':
		return api.OTree
	case 'c':
		return api.OCommit
	}
	return 0
}

func numberAt(b []byte, at int) int {
	return int(b[at])<<24 | int(b[at+1])<<16 | int(b[at+2])<<8 | int(b[at+3])
}
