package codec

import (
	"bytes"
	"slices"

	"selvage/api"
)

const (
	hasHead = 1
	hasSeq  = 2

	most1 = 1<<8 - 1 // what a number of so many bytes can tell
	most2 = 1<<16 - 1
	most4 = 1<<32 - 1
)

// EncodeTx tells the bytes of a transaction.
func EncodeTx(t api.Tx) ([]byte, api.Errno) {
	t = asked(t)
	switch {
	case len(t.Moves) > most2 || len(t.Mem) > most2 || len(t.Seq.Todo) > most2:
		return nil, api.ErrMany
	case hasLongText(t):
		return nil, api.ErrLong
	case !numbersFit(t.Seq):
		return nil, api.ErrArg
	}
	b := []byte{0}
	if t.HasHead {
		b[0] |= hasHead
		b = text(b, t.Head, 1)
	}
	b = number(b, uint64(len(t.Moves)), 2)
	for _, m := range t.Moves {
		b = text(b, m.Name, 1)
		b = append(b, m.Old[:]...)
		b = append(b, m.New[:]...)
		b = text(b, m.Why, 2)
	}
	if t.HasSeq {
		b[0] |= hasSeq
		b = putSeq(b, t.Seq)
	}
	b = number(b, uint64(len(t.Mem)), 2)
	for _, m := range t.Mem {
		b = append(b, m.Key[:]...)
		b = append(number(b, uint64(len(m.Data)), 4), m.Data...)
	}
	return b, api.OK
}

// asked tells a transaction without what is not asked of it.
func asked(t api.Tx) api.Tx {
	if !t.HasHead {
		t.Head = ""
	}
	if !t.HasSeq || t.Seq.Kind == 0 {
		t.Seq = api.Seq{}
	}
	return t
}

func hasLongText(t api.Tx) bool {
	for _, m := range t.Moves {
		if len(m.Name) > most1 || len(m.Why) > most2 {
			return true
		}
	}
	for _, m := range t.Mem {
		if len(m.Data) > most4 {
			return true
		}
	}
	return len(t.Head) > most1 || len(t.Seq.Branch) > most1
}

func numbersFit(s api.Seq) bool {
	for _, x := range s.Todo {
		if !fits(x.Do, most1) {
			return false
		}
	}
	return fits(s.Kind, most1) && fits(s.Done, most2) && fits(s.Made, most2)
}

func fits(x, most int) bool { return x >= 0 && x <= most }

func putSeq(b []byte, s api.Seq) []byte {
	b = append(b, byte(s.Kind))
	if s.Kind == 0 {
		return b
	}
	b = text(b, s.Branch, 1)
	b = append(b, s.Orig[:]...)
	b = append(b, s.Cur[:]...)
	b = number(b, uint64(len(s.Todo)), 2)
	for _, x := range s.Todo {
		b = append(b, byte(x.Do))
		b = append(b, x.Id[:]...)
	}
	b = number(b, uint64(s.Done), 2)
	b = number(b, uint64(s.Made), 2)
	if s.Stopped {
		return append(b, 1)
	}
	return append(b, 0)
}

// ParseTx reads what EncodeTx tells.
func ParseTx(b []byte) (api.Tx, api.Errno) {
	r := &txReader{reader: reader{b: b}}
	t := r.tx()
	if !r.ok() {
		return api.Tx{}, r.failed
	}
	return t, api.OK
}

type txReader struct {
	reader
}

func (r *txReader) tx() api.Tx {
	var t api.Tx
	has := r.byte()
	if has > hasHead|hasSeq {
		r.fail(api.ErrBad)
	}
	if t.HasHead = has&hasHead != 0; t.HasHead {
		t.Head = r.text(1, most1)
	}
	for n := r.number(2); n > 0 && r.ok(); n-- {
		m := api.Move{Name: r.text(1, most1)}
		m.Old, m.New = r.id(), r.id()
		m.Why = r.text(2, most2)
		t.Moves = append(t.Moves, m)
	}
	if t.HasSeq = has&hasSeq != 0; t.HasSeq {
		t.Seq = r.seq()
	}
	for n := r.number(2); n > 0 && r.ok(); n-- {
		m := api.Memory{Key: r.id()}
		m.Data = bytes.Clone(r.take(r.number(4)))
		t.Mem = append(t.Mem, m)
	}
	r.end()
	return t
}

func (r *txReader) seq() api.Seq {
	s := api.Seq{Kind: r.number(1)}
	if s.Kind == 0 {
		return s
	}
	s.Branch = r.text(1, most1)
	s.Orig, s.Cur = r.id(), r.id()
	for n := r.number(2); n > 0 && r.ok(); n-- {
		x := api.Todo{Do: r.number(1)}
		x.Id = r.id()
		s.Todo = append(s.Todo, x)
	}
	s.Done, s.Made = r.number(2), r.number(2)
	stopped := r.byte()
	if stopped > 1 {
		r.fail(api.ErrBad)
	}
	s.Stopped = stopped == 1
	return s
}

// SameTx tells whether two transactions are the same in everything that is asked of them.
func SameTx(a, b api.Tx) bool {
	a, b = asked(a), asked(b)
	return a.HasHead == b.HasHead && a.Head == b.Head && a.HasSeq == b.HasSeq &&
		slices.Equal(a.Moves, b.Moves) && sameSeq(a.Seq, b.Seq) && slices.EqualFunc(a.Mem, b.Mem, sameMemory)
}

func sameSeq(a, b api.Seq) bool {
	return a.Kind == b.Kind && a.Branch == b.Branch && a.Orig == b.Orig && a.Cur == b.Cur &&
		slices.Equal(a.Todo, b.Todo) && a.Done == b.Done && a.Made == b.Made && a.Stopped == b.Stopped
}

func sameMemory(a, b api.Memory) bool {
	return a.Key == b.Key && bytes.Equal(a.Data, b.Data)
}
