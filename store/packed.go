package store

import (
	"slices"
	"sync"

	"selvage/api"
	"selvage/codec"
	"selvage/pack"
)

// packed is a pack that stands on the disk. Its bytes are read once, when they are asked first; they are known from then on, whatever becomes of the disk.
type packed struct {
	path    string
	once    sync.Once
	b       []byte // till they are read
	ids     []api.Id
	objects []api.Obj // in the order of ids
	failed  api.Errno
}

func (p *packed) read() {
	p.once.Do(func() {
		p.objects, p.failed = pack.Parse(p.b)
		for _, o := range p.objects {
			i, _ := codec.Id(o)
			p.ids = append(p.ids, i)
		}
		p.b = nil
	})
}

func (p *packed) find(i api.Id) (api.Obj, bool) {
	p.read()
	k, is := slices.BinarySearchFunc(p.ids, i, inOrder)
	if !is {
		return api.Obj{}, false
	}
	return p.objects[k], true
}

func (p *packed) all() []api.Id {
	p.read()
	return p.ids
}
