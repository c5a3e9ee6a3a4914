package store

import (
	"bytes"
	"slices"
	"strings"

	"selvage/api"
	"selvage/pack"
	"selvage/sum"
)

const (
	packDir = "p"
	newPack = packDir + "/new"
)

// Keep lays just these into one pack: how many went.
func (s *Store) Keep(l ...api.Id) (int, api.Errno) {
	kept, e := s.objects(l)
	if e != api.OK {
		return 0, e
	}
	had, e := s.All()
	if e != api.OK {
		return 0, e
	}
	path := ""
	if len(kept) > 0 {
		if path, e = s.layPack(kept); e != api.OK {
			return 0, e
		}
	}
	if e = s.dropPacksBut(path); e != api.OK {
		return 0, e
	}
	if e = s.dropLoose(); e != api.OK {
		return 0, e
	}
	return len(had) - len(kept), api.OK
}

// objects reads those of Ids, each once.
func (s *Store) objects(l []api.Id) ([]api.Obj, api.Errno) {
	var out []api.Obj
	seen := map[api.Id]struct{}{}
	for _, i := range l {
		if _, is := seen[i]; is {
			continue
		}
		seen[i] = struct{}{}
		o, e := s.get(i)
		if e != api.OK {
			return nil, e
		}
		out = append(out, o)
	}
	return out, api.OK
}

// layPack makes the pack of objects one that stands, and tells its path.
func (s *Store) layPack(l []api.Obj) (string, api.Errno) {
	b, e := pack.Build(l...)
	if e != api.OK {
		return "", e
	}
	path := packDir + "/" + sum.Hex(sum.Of(b))
	had, e := s.disk.Read(path)
	if e == api.OK && bytes.Equal(had, b) {
		s.know(&packed{path: path, b: b})
		return path, api.OK
	}
	if e != api.OK && e != api.ErrNone {
		return "", e
	}
	if e = s.disk.Write(newPack, b); e == api.ErrLong || e == api.ErrFull {
		s.disk.Remove(newPack)
	}
	if e != api.OK {
		return "", e
	}
	if e = s.disk.Sync(newPack); e != api.OK {
		return "", e
	}
	if e = s.disk.Rename(newPack, path); e != api.OK {
		return "", e
	}
	s.know(&packed{path: path, b: b})
	return path, s.disk.SyncDir(packDir)
}

// know puts a pack among those that stand.
func (s *Store) know(p *packed) {
	k, is := slices.BinarySearchFunc(s.packs, p.path, func(x *packed, path string) int {
		return strings.Compare(x.path, path)
	})
	if is {
		s.packs[k] = p
		return
	}
	s.packs = slices.Insert(s.packs, k, p)
}

// dropPacksBut takes every other pack away; none stands any more as soon as it went.
func (s *Store) dropPacksBut(path string) api.Errno {
	went := false
	for k := 0; k < len(s.packs); {
		p := s.packs[k]
		if p.path == path {
			k++
			continue
		}
		if e := s.disk.Remove(p.path); e != api.OK {
			return e
		}
		s.packs = slices.Delete(s.packs, k, k+1)
		went = true
	}
	if !went {
		return api.OK
	}
	return s.disk.SyncDir(packDir)
}

func (s *Store) dropLoose() api.Errno {
	l, e := s.loose.All()
	if e != api.OK {
		return e
	}
	return s.loose.Drop(l...)
}
