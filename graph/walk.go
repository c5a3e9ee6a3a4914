package graph

import (
	"container/heap"
	"slices"

	"selvage/api"
)

// set is Ids, each once.
type set map[api.Id]struct{}

func (s set) has(i api.Id) bool {
	_, is := s[i]
	return is
}

func (s set) add(l ...api.Id) {
	for _, i := range l {
		s[i] = struct{}{}
	}
}

// walk is the commits that stand above some, and their parents.
type walk struct {
	parents map[api.Id][]api.Id
}

// gather asks the parents of all that stand above these, each once.
func gather(s Source, l ...api.Id) (*walk, error) {
	w := &walk{parents: map[api.Id][]api.Id{}}
	found := slices.Clone(l)
commits:
	for k := 0; k < len(found); k++ {
		i := found[k]
		if _, asked := w.parents[i]; asked {
			continue commits
		}
		if len(w.parents) == api.MaxCommits {
			return nil, api.ErrMany
		}
		parents, err := s.Parents(i)
		if err != nil {
			return nil, err
		}
		w.parents[i] = slices.Clone(parents)
		for _, p := range parents {
			if _, asked := w.parents[p]; !asked {
				found = append(found, p)
			}
		}
	}
	return w, nil
}

// above tells all that stand above these.
func (w *walk) above(l ...api.Id) set {
	found := set{}
	rest := slices.Clone(l)
	for len(rest) > 0 {
		i := rest[len(rest)-1]
		rest = rest[:len(rest)-1]
		if found.has(i) {
			continue
		}
		found.add(i)
		rest = append(rest, w.parents[i]...)
	}
	return found
}

// sorted tells commits, each behind its parents among them; of those that could come next the lowest one.
func (w *walk) sorted(l set) []api.Id {
	waits := map[api.Id]int{}
	children := map[api.Id][]api.Id{}
	var ready queue
	for i := range l {
		for _, p := range w.parents[i] {
			if l.has(p) {
				waits[i]++
				children[p] = append(children[p], i)
			}
		}
		if waits[i] == 0 {
			ready = append(ready, i)
		}
	}
	heap.Init(&ready)
	var out []api.Id
	for len(ready) > 0 {
		i := heap.Pop(&ready).(api.Id)
		out = append(out, i)
		for _, c := range children[i] {
			if waits[c]--; waits[c] == 0 {
				heap.Push(&ready, c)
			}
		}
	}
	return out
}

// queue is a heap of Ids.
type queue []api.Id

func (q queue) Len() int           { return len(q) }
func (q queue) Less(a, b int) bool { return inOrder(q[a], q[b]) < 0 }
func (q queue) Swap(a, b int)      { q[a], q[b] = q[b], q[a] }
func (q *queue) Push(x any)        { *q = append(*q, x.(api.Id)) }

func (q *queue) Pop() any {
	l := *q
	i := l[len(l)-1]
	*q = l[:len(l)-1]
	return i
}
