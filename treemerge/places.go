package treemerge

import (
	"bytes"
	"slices"
	"strings"

	"selvage/api"
)

// settle gives each thing a place of its own, and tells the files, by their paths.
func (m *merging) settle() []api.File {
	p := &places{at: map[string]api.File{}, below: map[string]int{}}
	m.partPlaces(p)
	m.partDirs(p)
	var out []api.File
	for _, path := range p.paths() {
		f := p.at[path]
		out = append(out, api.File{Path: path, Kind: f.Kind, Data: bytes.Clone(f.Data)})
	}
	return out
}

// partPlaces lets the first of several things at one place stay there.
func (m *merging) partPlaces(p *places) {
	wanted := map[string]struct{}{}
	for _, f := range m.things {
		wanted[f.Path] = struct{}{}
	}
	free := func(path string) bool {
		_, is := wanted[path]
		return !is && !p.has(path)
	}
	for _, f := range m.things {
		path := f.Path
		if p.has(path) {
			m.clash(path, api.WPlace)
			path = beside(path, free)
		}
		p.put(path, f)
	}
}

// partDirs moves things away that stand where there is a directory.
func (m *merging) partDirs(p *places) {
	free := func(path string) bool { return !p.has(path) && p.below[path] == 0 }
	for _, path := range p.paths() {
		if p.below[path] == 0 {
			continue
		}
		m.clash(path, api.WDir)
		f := p.at[path]
		p.take(path)
		p.put(beside(path, free), f)
	}
}

// beside tells the first free place of path and `~`, `~~`, ..
func beside(path string, free func(string) bool) string {
	path += "~"
	for !free(path) {
		path += "~"
	}
	return path
}

// places are things by where they stand, and how many stand below each path.
type places struct {
	at    map[string]api.File
	below map[string]int
}

func (p *places) has(path string) bool {
	_, is := p.at[path]
	return is
}

func (p *places) put(path string, f api.File) {
	p.at[path] = f
	p.count(path, 1)
}

func (p *places) take(path string) {
	delete(p.at, path)
	p.count(path, -1)
}

// count adds n to what stands below each directory of path.
func (p *places) count(path string, n int) {
	for {
		at := strings.LastIndexByte(path, '/')
		if at < 0 {
			return
		}
		path = path[:at]
		p.below[path] += n
	}
}

func (p *places) paths() []string {
	l := make([]string, 0, len(p.at))
	for path := range p.at {
		l = append(l, path)
	}
	slices.Sort(l)
	return l
}
