package simfs

import "slices"

// choice goes through picks.
type choice struct {
	picks []int
	asked int
}

// next picks one of n.
func (c *choice) next(n int) int {
	c.asked++
	if c.asked > len(c.picks) {
		return 0
	}
	return (c.picks[c.asked-1]%n + n) % n
}

// Crash loses what did not stay, as picks say.
func (f *FS) Crash(picks ...int) int {
	c := choice{picks: picks}
	for _, name := range sortedKeys(f.dirs) {
		if d := f.dirs[name]; d.waits() {
			d.crash(c.next(len(d.since) + 1))
		}
	}
	f.used = 0
	for _, path := range f.paths() {
		x := f.find(path)
		if x.waits() {
			x.crash(c.next(x.outcomes()))
		}
		f.used += len(x.now)
	}
	f.stopped, f.left = false, 0
	return c.asked
}

// paths tells those of all files, rising; the order of directories is not that of their files.
func (f *FS) paths() []string {
	var l []string
	for _, d := range f.dirs {
		l = append(l, d.paths()...)
	}
	slices.Sort(l)
	return l
}
