package tree

import (
	"slices"
	"strings"

	"selvage/api"
	"selvage/codec"
	"selvage/store"
)

// Read tells the files of a tree.
func Read(s *store.Store, i api.Id) ([]api.File, api.Errno) {
	root, e := s.Get(i)
	if e != api.OK {
		return nil, e
	}
	if root.Kind != api.OTree {
		return nil, api.ErrKind
	}
	r := &reading{store: s}
	if e = r.tree(root, "", 1); e != api.OK {
		return nil, e
	}
	slices.SortFunc(r.files, func(a, b api.File) int { return strings.Compare(a.Path, b.Path) })
	return r.files, api.OK
}

// reading goes through a tree, entry by entry.
type reading struct {
	store *store.Store
	files []api.File
}

// tree reads a tree whose entries stand at dir, so many names deep.
func (r *reading) tree(o api.Obj, dir string, depth int) api.Errno {
	entries, e := codec.ParseTree(o.Body)
	if e != api.OK {
		return e
	}
	for _, x := range entries {
		if depth > api.MaxDepth {
			return api.ErrBad
		}
		if e = r.entry(x, dir+x.Name, depth); e != api.OK {
			return e
		}
	}
	return api.OK
}

func (r *reading) entry(x api.Entry, path string, depth int) api.Errno {
	o, e := r.store.Get(x.Id)
	switch {
	case e != api.OK:
		return e
	case (x.Kind == api.KTree) != (o.Kind == api.OTree), o.Kind == api.OCommit:
		return api.ErrKind
	case x.Kind == api.KTree && len(o.Body) == 0:
		return api.ErrBad
	case x.Kind == api.KTree:
		return r.tree(o, path+"/", depth+1)
	case len(r.files) == api.MaxFiles:
		return api.ErrMany
	}
	r.files = append(r.files, api.File{Path: path, Kind: x.Kind, Data: o.Body})
	return api.OK
}
