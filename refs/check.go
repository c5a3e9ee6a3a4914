package refs

import (
	"slices"

	"selvage/api"
	"selvage/codec"
	"selvage/name"
)

// check tells why a transaction may not be done, or its record.
func (l *ledger) check(t api.Tx) ([]byte, api.Errno) {
	if !t.HasHead && !t.HasSeq && len(t.Moves) == 0 && len(t.Mem) == 0 {
		return nil, api.ErrArg
	}
	if t.HasHead && t.Head != "" && name.Check(t.Head) != api.OK {
		return nil, api.ErrName
	}
	if e := l.checkMoves(t.Moves); e != api.OK {
		return nil, e
	}
	if e := l.checkNames(t.Moves); e != api.OK {
		return nil, e
	}
	if t.HasSeq && t.Seq.Kind != 0 {
		if e := checkSeq(t.Seq); e != api.OK {
			return nil, e
		}
	}
	if e := l.checkMem(t.Mem); e != api.OK {
		return nil, e
	}
	record, e := codec.EncodeTx(t)
	if e != api.OK || len(record) > api.MaxRecord {
		return nil, api.ErrLong
	}
	return record, api.OK
}

func (l *ledger) checkMoves(moves []api.Move) api.Errno {
	seen := map[string]struct{}{}
	for _, m := range moves {
		_, elder := seen[m.Name]
		switch {
		case name.Check(m.Name) != api.OK:
			return api.ErrName
		case elder:
			return api.ErrOrder
		case l.at(m.Name) != m.Old:
			return api.ErrOld
		case m.New == m.Old:
			return api.ErrSame
		}
		seen[m.Name] = struct{}{}
	}
	return api.OK
}

// checkNames asks the references as all moves leave them.
func (l *ledger) checkNames(moves []api.Move) api.Errno {
	none := api.Id{}
	names := l.names()
	for _, m := range moves {
		switch {
		case m.Old == none:
			names = append(names, m.Name)
		case m.New == none:
			names = slices.DeleteFunc(names, func(s string) bool { return s == m.Name })
		}
	}
	if len(names) > api.MaxRefs {
		return api.ErrMany
	}
	for _, m := range moves {
		if m.Old != none {
			continue
		}
		others := slices.DeleteFunc(slices.Clone(names), func(s string) bool { return s == m.Name })
		if name.Fits(m.Name, others...) != api.OK {
			return api.ErrDir
		}
	}
	return api.OK
}

func checkSeq(s api.Seq) api.Errno {
	todo, none := len(s.Todo), api.Id{}
	switch {
	case s.Kind != api.SPick && s.Kind != api.SRebase:
		return api.ErrKind
	case name.Check(s.Branch) != api.OK:
		return api.ErrName
	case s.Orig == none || s.Cur == none:
		return api.ErrArg
	case s.Done < 0 || s.Done > todo || s.Made < 0 || s.Made > s.Done || s.Stopped && s.Done == todo:
		return api.ErrArg
	case todo > api.MaxTodo:
		return api.ErrMany
	}
	for _, x := range s.Todo {
		switch {
		case x.Do < api.TPick || x.Do > api.TSquash:
			return api.ErrKind
		case x.Id == none:
			return api.ErrArg
		}
	}
	return api.OK
}

func (l *ledger) checkMem(mem []api.Memory) api.Errno {
	fresh := map[api.Id]struct{}{}
	for _, m := range mem {
		switch {
		case m.Key == api.Id{}:
			return api.ErrArg
		case len(m.Data) > api.MaxBlob:
			return api.ErrLong
		}
		if _, is := l.mem[m.Key]; !is {
			fresh[m.Key] = struct{}{}
		}
	}
	if len(l.mem)+len(fresh) > api.MaxMemory {
		return api.ErrMany
	}
	return api.OK
}
