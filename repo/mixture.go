package repo

import (
	"slices"
	"strings"

	"selvage/api"
	"selvage/merge3"
	"selvage/rerere"
	"selvage/tree"
)

// mixture is a merged tree, its clashes, and what was learned of them.
type mixture struct {
	files   []api.File
	clashes []api.Clash
	learned []api.Memory
}

// resolve takes clashes away that are known, or that files resolve.
func (m *mixture) resolve(mem []api.Memory, files []api.File) api.Errno {
	m.recall(mem)
	for k, f := range files {
		if !m.clashesAt(f.Path) {
			return api.ErrArg
		}
		if k > 0 && f.Path <= files[k-1].Path {
			return api.ErrOrder
		}
		if e := checkContent(f); e != api.OK {
			return e
		}
	}
	unsolved := slices.DeleteFunc(slices.Clone(m.clashes), func(c api.Clash) bool {
		return at(files, c.Path) >= 0
	})
	if len(unsolved) > 0 {
		m.clashes = unsolved
		return api.ErrConflict
	}
	m.learn(mem, files)
	for _, f := range files {
		m.set(f)
	}
	return tree.Check(m.files)
}

// left tells the clashes that stay beside an error.
func (m *mixture) left(e api.Errno) []api.Clash {
	if e != api.ErrConflict {
		return nil
	}
	return m.clashes
}

// at tells where among files one of that path is, or -1.
func at(files []api.File, path string) int {
	return slices.IndexFunc(files, func(f api.File) bool { return f.Path == path })
}

// key tells that of the conflict in the text at a path.
func (m *mixture) key(path string) (api.Id, bool) {
	k := at(m.files, path)
	if k < 0 || m.files[k].Kind == api.KLink {
		return api.Id{}, false
	}
	i, e := rerere.Key(m.files[k].Data)
	return i, e == api.OK
}

// recall takes the clashes away that the memory knows.
func (m *mixture) recall(mem []api.Memory) {
	paths := map[string]int{}
	for _, c := range m.clashes {
		paths[c.Path]++
	}
	m.clashes = slices.DeleteFunc(slices.Clone(m.clashes), func(c api.Clash) bool {
		if c.Why != api.WContent || paths[c.Path] > 1 {
			return false
		}
		key, is := m.key(c.Path)
		if !is {
			return false
		}
		data, is := rerere.Find(mem, key)
		if is {
			m.files[at(m.files, c.Path)].Data = data
		}
		return is
	})
}

func (m *mixture) clashesAt(path string) bool {
	return slices.ContainsFunc(m.clashes, func(c api.Clash) bool { return c.Path == path })
}

// checkContent tells why what a file holds may not stand there.
func checkContent(f api.File) api.Errno {
	switch {
	case f.Kind == 0 && len(f.Data) > 0:
		return api.ErrArg
	case f.Kind == 0:
		return api.OK
	case f.Kind != api.KFile && f.Kind != api.KExec && f.Kind != api.KLink:
		return api.ErrKind
	case len(f.Data) > api.MaxBlob:
		return api.ErrLong
	case f.Kind != api.KLink && merge3.Marks(f.Data):
		return api.ErrMarks
	}
	return api.OK
}

// learn keeps what files made of conflicts, as long as the memory has room.
func (m *mixture) learn(mem []api.Memory, files []api.File) {
	room := api.MaxMemory - len(mem)
	for _, c := range m.clashes {
		f := files[at(files, c.Path)]
		if c.Why != api.WContent || f.Kind != api.KFile && f.Kind != api.KExec {
			continue
		}
		key, is := m.key(c.Path)
		if !is {
			continue
		}
		if _, known := rerere.Find(mem, key); !known {
			if _, known = rerere.Find(m.learned, key); !known {
				if room == 0 {
					continue
				}
				room--
			}
		}
		m.learned = append(m.learned, api.Memory{Key: key, Data: f.Data})
	}
}

// set lets a file stand at its path; of Kind 0 nothing stands there.
func (m *mixture) set(f api.File) {
	k, is := slices.BinarySearchFunc(m.files, f.Path, func(g api.File, path string) int {
		return strings.Compare(g.Path, path)
	})
	switch {
	case f.Kind == 0 && is:
		m.files = slices.Delete(m.files, k, k+1)
	case f.Kind == 0:
	case is:
		m.files[k] = f
	default:
		m.files = slices.Insert(m.files, k, f)
	}
}
