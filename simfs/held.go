package simfs

import (
	"bytes"
	"maps"
)

// held is what files and directories both are: what is there, what of it stays, and what was done since that was settled.
type held[S, C any] struct {
	now, stays S
	since      []C
}

func (h *held[S, C]) waits() bool { return len(h.since) > 0 }

// write is one that a file has not settled yet.
type write struct {
	data   []byte
	behind bool // its bytes stand behind those ahead of it
}

type file struct {
	held[[]byte, write]
}

// do writes. Bytes of a row are never overwritten in place, so that now, stays and since may share them.
func (f *file) do(data []byte, behind bool) {
	if !behind {
		f.now = nil
	}
	at := len(f.now)
	f.now = append(f.now, data...)
	f.since = append(f.since, write{f.now[at:], behind})
}

func (f *file) settle() {
	f.stays, f.since = f.now, nil
}

// outcomes tells how many rows of bytes a crash may leave in the file.
func (f *file) outcomes() int {
	n := 1
	for _, w := range f.since {
		n += w.outcomes()
	}
	return n
}

// crash leaves the outcome of that number.
func (f *file) crash(pick int) {
	f.now = f.outcome(pick)
	f.settle()
}

func (f *file) outcome(pick int) []byte {
	left := bytes.Clone(f.stays)
	if pick == 0 {
		return left
	}
	pick--
	for _, w := range f.since {
		if !w.behind {
			left = nil
		}
		if n := w.outcomes(); pick >= n {
			pick -= n
			left = append(left, w.data...)
			continue
		}
		return append(left, w.partly(pick)...)
	}
	return left
}

func (w write) outcomes() int { return max(1, 2*len(w.data)) }

// partly tells the bytes that outcome number pick of the write leaves: its first ones, or its first ones and noughts.
func (w write) partly(pick int) []byte {
	n := len(w.data)
	if pick < n {
		return w.data[:pick+1]
	}
	l := make([]byte, n)
	copy(l, w.data[:pick-n])
	return l
}

// change is one of a directory's names: one goes, or comes, or both at once; the empty text is none.
type change struct {
	gone, name string
	file       *file
}

type directory struct {
	held[map[string]*file, change]
}

func newDirectory() *directory {
	d := &directory{}
	d.now, d.stays = map[string]*file{}, map[string]*file{}
	return d
}

func (d *directory) do(c change) {
	c.apply(d.now)
	d.since = append(d.since, c)
}

// settle lets the first n changes stay.
func (d *directory) settle(n int) {
	for _, c := range d.since[:n] {
		c.apply(d.stays)
	}
	d.since = nil
}

// crash leaves the first n changes.
func (d *directory) crash(n int) {
	d.settle(n)
	d.now = maps.Clone(d.stays)
}

func (d *directory) paths() []string { return sortedKeys(d.now) }

func (c change) apply(names map[string]*file) {
	if c.gone != "" {
		delete(names, c.gone)
	}
	if c.name != "" {
		names[c.name] = c.file
	}
}
