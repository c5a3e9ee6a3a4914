package refs

import (
	"bytes"
	"slices"

	"selvage/api"
)

// ledger is a state whose names and keys are looked up.
type ledger struct {
	head string
	refs map[string]*branch
	seq  api.Seq
	mem  map[api.Id][]byte
}

type branch struct {
	id    api.Id
	lines []api.Line
}

// ledgerOf tells a state's ledger, which shares its lines and bytes, but changes none of them.
func ledgerOf(s api.State) *ledger {
	l := &ledger{head: s.Head, seq: s.Seq, refs: map[string]*branch{}, mem: map[api.Id][]byte{}}
	for _, r := range s.Refs {
		l.refs[r.Name] = &branch{id: r.Id}
	}
	for _, x := range s.Logs {
		if b := l.refs[x.Name]; b != nil {
			b.lines = slices.Clip(x.Lines)
		}
	}
	for _, m := range s.Mem {
		l.mem[m.Key] = m.Data
	}
	return l
}

// at tells where a reference stands.
func (l *ledger) at(name string) api.Id {
	if b := l.refs[name]; b != nil {
		return b.id
	}
	return api.Id{}
}

// apply does a transaction that may be done.
func (l *ledger) apply(t api.Tx) {
	if t.HasHead {
		l.head = t.Head
	}
	for _, m := range t.Moves {
		l.move(m)
	}
	if t.HasSeq {
		l.seq = cloneSeq(t.Seq)
	}
	for _, m := range t.Mem {
		l.mem[m.Key] = bytes.Clone(m.Data)
	}
}

func (l *ledger) move(m api.Move) {
	b := l.refs[m.Name]
	switch {
	case m.New == api.Id{}:
		delete(l.refs, m.Name)
	case b == nil:
		b = &branch{}
		l.refs[m.Name] = b
		fallthrough
	default:
		b.id = m.New
		b.lines = append(b.lines, api.Line{Old: m.Old, New: m.New, Why: m.Why})
		if len(b.lines) > api.MaxLog {
			b.lines = slices.Clone(b.lines[1:])
		}
	}
}

// cloneSeq copies a sequence; of Kind 0 there is none.
func cloneSeq(s api.Seq) api.Seq {
	if s.Kind == 0 {
		return api.Seq{}
	}
	s.Todo = slices.Clone(s.Todo)
	return s
}

// state tells the ledger as a state of its own.
func (l *ledger) state() api.State {
	s := api.State{Head: l.head, Seq: cloneSeq(l.seq)}
	for _, name := range l.names() {
		b := l.refs[name]
		s.Refs = append(s.Refs, api.Ref{Name: name, Id: b.id})
		s.Logs = append(s.Logs, api.Log{Name: name, Lines: slices.Clone(b.lines)})
	}
	for key, data := range l.mem {
		s.Mem = append(s.Mem, api.Memory{Key: key, Data: bytes.Clone(data)})
	}
	slices.SortFunc(s.Mem, func(a, b api.Memory) int { return bytes.Compare(a.Key[:], b.Key[:]) })
	return s
}

// names tells those of all references, rising.
func (l *ledger) names() []string {
	out := make([]string, 0, len(l.refs))
	for name := range l.refs {
		out = append(out, name)
	}
	slices.Sort(out)
	return out
}
