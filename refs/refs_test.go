package refs_test

import (
	"fmt"
	"math/rand"
	"reflect"
	"slices"
	"strings"
	"testing"

	"selvage/api"
	"selvage/codec"
	"selvage/refs"
	"selvage/simfs"
	"selvage/wal"
)

var none api.Id

func id(k int) api.Id { return api.Id{0: byte(k), 1: byte(k >> 8), 31: 1} }

func move(name string, old, new int) api.Move {
	m := api.Move{Name: name, Why: "why"}
	if old != 0 {
		m.Old = id(old)
	}
	if new != 0 {
		m.New = id(new)
	}
	return m
}

func moves(l ...api.Move) api.Tx { return api.Tx{Moves: l} }

func seq() api.Seq {
	return api.Seq{Kind: api.SPick, Branch: "main", Orig: id(1), Cur: id(2), Todo: []api.Todo{{Do: 1, Id: id(3)}, {Do: 3, Id: id(4)}}, Done: 1, Made: 1, Stopped: true}
}

// state tells one with references a and b/c.
func state() api.State {
	return refs.Apply(api.State{}, api.Tx{HasHead: true, Head: "a", Moves: []api.Move{move("b/c", 0, 2), move("a", 0, 1)},
		Mem: []api.Memory{{Key: id(9), Data: []byte("nine")}}})
}

func TestCheckMoves(t *testing.T) { // P1001
	long := strings.Repeat("x", 61)
	for k, x := range []struct {
		t    api.Tx
		want api.Errno
	}{
		{api.Tx{}, api.ErrArg},
		{api.Tx{Head: "x", Seq: seq()}, api.ErrArg},
		{api.Tx{HasHead: true}, api.OK},
		{api.Tx{HasHead: true, Head: "x/y"}, api.OK},
		{api.Tx{HasHead: true, Head: "b"}, api.OK},
		{api.Tx{HasHead: true, Head: "x/", Moves: []api.Move{move("a", 9, 9)}}, api.ErrName},
		{api.Tx{HasHead: true, Head: long}, api.ErrName},
		{api.Tx{Head: "/", Moves: []api.Move{move("a", 1, 3)}}, api.OK},
		{moves(move("a", 1, 3)), api.OK},
		{moves(move("a", 1, 0), move("b/c", 2, 1), move("d", 0, 1)), api.OK},
		{moves(move("/", 1, 3)), api.ErrName},
		{moves(move("a", 1, 3), move("/", 1, 3)), api.ErrName},
		{moves(move("a", 1, 3), move("a", 1, 3)), api.ErrOrder},
		{moves(move("a", 1, 3), move("a", 9, 9)), api.ErrOrder},
		{moves(move("a", 1, 3), move("b/c", 9, 9), move("a", 9, 9)), api.ErrOld},
		{moves(move("a", 2, 2)), api.ErrOld},
		{moves(move("a", 0, 1)), api.ErrOld},
		{moves(move("d", 1, 2)), api.ErrOld},
		{moves(move("a", 1, 1)), api.ErrSame},
		{moves(move("d", 0, 0)), api.ErrSame},
		{moves(move("b", 0, 1)), api.ErrDir},
		{moves(move("a/x", 0, 1)), api.ErrDir},
		{moves(move("b/c/d", 0, 1)), api.ErrDir},
		{moves(move("b/d", 0, 1)), api.OK},
		{moves(move("a/x", 0, 1), move("a", 1, 0)), api.OK},
		{moves(move("b", 0, 1), move("b/c", 2, 0)), api.OK},
		{moves(move("d", 0, 1), move("d/e", 0, 1)), api.ErrDir},
		{moves(move("b", 0, 1), move("c", 0, 0)), api.ErrSame},
	} {
		if e := refs.Check(state(), x.t); e != x.want {
			t.Errorf("%d: %v, not %v", k, e, x.want)
		}
	}
}

func TestMaxRefs(t *testing.T) { // P1001
	var l []api.Move
	for k := range 200 {
		l = append(l, move(fmt.Sprint("r", k), 0, 1))
	}
	if e := refs.Check(api.State{}, moves(l...)); e != api.OK {
		t.Error(e)
	}
	s := refs.Apply(api.State{}, moves(l...))
	if e := refs.Check(s, moves(move("x", 0, 1))); e != api.ErrMany {
		t.Error(e)
	}
	if e := refs.Check(s, moves(move("r0/x", 0, 1))); e != api.ErrMany {
		t.Error(e)
	}
	if e := refs.Check(s, moves(move("x", 0, 1), move("r7", 1, 0))); e != api.OK {
		t.Error(e)
	}
	if e := refs.Check(s, moves(move("r7", 1, 3))); e != api.OK {
		t.Error(e)
	}
}

func TestCheckSeq(t *testing.T) { // P1001
	for k, x := range []struct {
		change func(s *api.Seq)
		want   api.Errno
	}{
		{func(s *api.Seq) {}, api.OK},
		{func(s *api.Seq) { s.Kind = 2 }, api.OK},
		{func(s *api.Seq) { *s = api.Seq{Done: -5, Stopped: true} }, api.OK},
		{func(s *api.Seq) { s.Done, s.Made, s.Stopped = 2, 2, false }, api.OK},
		{func(s *api.Seq) { *s = api.Seq{Kind: 1, Branch: "x", Orig: id(1), Cur: id(1)} }, api.OK},
		{func(s *api.Seq) { s.Todo = slices.Repeat(s.Todo, 50) }, api.OK},
		{func(s *api.Seq) { s.Kind = 3; s.Branch = "" }, api.ErrKind},
		{func(s *api.Seq) { s.Kind = -1 }, api.ErrKind},
		{func(s *api.Seq) { s.Branch = ""; s.Orig = none }, api.ErrName},
		{func(s *api.Seq) { s.Orig = none }, api.ErrArg},
		{func(s *api.Seq) { s.Cur = none }, api.ErrArg},
		{func(s *api.Seq) { s.Done, s.Made = -1, -1 }, api.ErrArg},
		{func(s *api.Seq) { s.Done, s.Stopped = 3, false }, api.ErrArg},
		{func(s *api.Seq) { s.Made = -1 }, api.ErrArg},
		{func(s *api.Seq) { s.Made = 2 }, api.ErrArg},
		{func(s *api.Seq) { s.Done = 2 }, api.ErrArg},
		{func(s *api.Seq) { s.Made = 2; s.Todo = slices.Repeat(s.Todo, 51) }, api.ErrArg},
		{func(s *api.Seq) { s.Todo = slices.Repeat(s.Todo, 51); s.Todo[0].Do = 9 }, api.ErrMany},
		{func(s *api.Seq) { s.Todo[1].Do = 0 }, api.ErrKind},
		{func(s *api.Seq) { s.Todo[0].Do = 4 }, api.ErrKind},
		{func(s *api.Seq) { s.Todo[0] = api.Todo{} }, api.ErrKind},
		{func(s *api.Seq) { s.Todo[1].Id = none }, api.ErrArg},
		{func(s *api.Seq) { s.Todo[0].Id = none; s.Todo[1].Do = 9 }, api.ErrArg},
	} {
		s := seq()
		x.change(&s)
		if e := refs.Check(state(), api.Tx{HasSeq: true, Seq: s}); e != x.want {
			t.Errorf("%d: %v, not %v", k, e, x.want)
		}
		if e := refs.Check(state(), api.Tx{Seq: s, HasHead: true}); e != api.OK {
			t.Errorf("%d: without HasSeq: %v", k, e)
		}
	}
}

func TestCheckMem(t *testing.T) { // P1001
	mem := func(from, n int) []api.Memory {
		var l []api.Memory
		for k := range n {
			l = append(l, api.Memory{Key: id(from + k)})
		}
		return l
	}
	big := make([]byte, api.MaxBlob+1)
	s := refs.Apply(api.State{}, api.Tx{Mem: mem(0, 499)})
	for k, x := range []struct {
		l    []api.Memory
		want api.Errno
	}{
		{mem(499, 1), api.OK},
		{mem(400, 100), api.OK},
		{append(mem(499, 1), mem(499, 1)...), api.OK},
		{[]api.Memory{{Key: id(1), Data: big[1:]}}, api.OK},
		{mem(499, 2), api.ErrMany},
		{[]api.Memory{{Data: big}}, api.ErrArg},
		{[]api.Memory{{Key: id(1), Data: big}, {}}, api.ErrLong},
		{[]api.Memory{{Key: id(1)}, {}}, api.ErrArg},
	} {
		if e := refs.Check(s, api.Tx{Mem: x.l}); e != x.want {
			t.Errorf("%d: %v, not %v", k, e, x.want)
		}
	}
}

func TestCheckLong(t *testing.T) { // P1001
	m := move("x", 0, 1)
	m.Why = strings.Repeat("y", 65536)
	if e := refs.Check(api.State{}, moves(m)); e != api.ErrLong {
		t.Error(e)
	}
	m.Why = m.Why[1:]
	if e := refs.Check(api.State{}, moves(m)); e != api.OK {
		t.Error(e)
	}
	var l []api.Memory
	for k := range 16 {
		l = append(l, api.Memory{Key: id(k), Data: make([]byte, api.MaxBlob)})
	}
	if e := refs.Check(api.State{}, api.Tx{Mem: l}); e != api.ErrLong {
		t.Error(e)
	}
	l[15].Data = l[15].Data[:api.MaxBlob-5-16*36]
	if e := refs.Check(api.State{}, api.Tx{Mem: l}); e != api.OK {
		t.Error(e)
	}
	l[15].Data = append(l[15].Data, 0)
	if e := refs.Check(api.State{}, api.Tx{Mem: l}); e != api.ErrLong {
		t.Error(e)
	}
}

func TestCheckInOrder(t *testing.T) { // P1001
	badSeq, badMem := api.Seq{Kind: 9}, []api.Memory{{}}
	if e := refs.Check(state(), api.Tx{HasSeq: true, Seq: badSeq, Moves: []api.Move{move("b", 0, 1)}}); e != api.ErrDir {
		t.Error(e)
	}
	if e := refs.Check(state(), api.Tx{HasSeq: true, Seq: badSeq, Mem: badMem}); e != api.ErrKind {
		t.Error(e)
	}
	m := move("x", 0, 1)
	m.Why = strings.Repeat("y", 65536)
	if e := refs.Check(state(), api.Tx{Mem: badMem, Moves: []api.Move{m}}); e != api.ErrArg {
		t.Error(e)
	}
}

func TestApply(t *testing.T) { // P1002
	want := api.State{
		Head: "a",
		Refs: []api.Ref{{Name: "a", Id: id(1)}, {Name: "b/c", Id: id(2)}},
		Logs: []api.Log{
			{Name: "a", Lines: []api.Line{{New: id(1), Why: "why"}}},
			{Name: "b/c", Lines: []api.Line{{New: id(2), Why: "why"}}},
		},
		Mem: []api.Memory{{Key: id(9), Data: []byte("nine")}},
	}
	if got := state(); !reflect.DeepEqual(got, want) {
		t.Fatalf("%+v", got)
	}
	s := refs.Apply(want, api.Tx{HasSeq: true, Seq: seq(), Moves: []api.Move{move("a", 1, 3), move("b/c", 2, 0), move("A", 0, 5)},
		Mem: []api.Memory{{Key: id(7), Data: []byte("7")}, {Key: id(9), Data: []byte("x")}, {Key: id(9), Data: []byte("9")}}})
	want2 := api.State{
		Head: "a",
		Refs: []api.Ref{{Name: "A", Id: id(5)}, {Name: "a", Id: id(3)}},
		Logs: []api.Log{
			{Name: "A", Lines: []api.Line{{New: id(5), Why: "why"}}},
			{Name: "a", Lines: []api.Line{{New: id(1), Why: "why"}, {Old: id(1), New: id(3), Why: "why"}}},
		},
		Seq: seq(),
		Mem: []api.Memory{{Key: id(7), Data: []byte("7")}, {Key: id(9), Data: []byte("9")}},
	}
	if !reflect.DeepEqual(s, want2) {
		t.Fatalf("%+v", s)
	}
	if !reflect.DeepEqual(state(), want) {
		t.Error("the state ahead was changed")
	}
	s = refs.Apply(s, api.Tx{HasHead: true, Seq: api.Seq{Kind: 1}})
	if s.Head != "" || s.Seq.Done != 1 {
		t.Error("a Seq without HasSeq counts")
	}
	s = refs.Apply(s, api.Tx{Head: "x", HasSeq: true, Seq: api.Seq{Branch: "x", Done: 4}})
	if s.Head != "" || !reflect.DeepEqual(s.Seq, api.Seq{}) {
		t.Error("a sequence of Kind 0 is none")
	}
	s = refs.Apply(want, moves(move("b/c", 2, 0)))
	s = refs.Apply(s, moves(move("b/c", 0, 7)))
	if got := s.Logs[1].Lines; len(got) != 1 || got[0].New != id(7) {
		t.Error("the log of a reference that went is kept")
	}
}

func TestMaxLog(t *testing.T) { // P1002
	s := refs.Apply(api.State{}, moves(move("a", 0, 1)))
	for k := 1; k < 150; k++ {
		s = refs.Apply(s, moves(move("a", k, k+1)))
		l := s.Logs[0].Lines
		if len(l) != min(k+1, 100) || l[len(l)-1].New != id(k+1) || l[len(l)-1].Old != id(k) {
			t.Fatalf("move %d: %d lines", k, len(l))
		}
	}
	if first := s.Logs[0].Lines[0]; first.New != id(51) {
		t.Error("another line than the first one went")
	}
}

func TestSame(t *testing.T) { // P1002
	whole := func() api.State { return refs.Apply(state(), api.Tx{HasSeq: true, Seq: seq()}) }
	for k, change := range []func(s *api.State){
		func(s *api.State) { s.Head = "x" },
		func(s *api.State) { s.Refs[0].Name = "x" },
		func(s *api.State) { s.Refs[1].Id = id(77) },
		func(s *api.State) { s.Refs = s.Refs[:1] },
		func(s *api.State) { s.Logs[0].Name = "x" },
		func(s *api.State) { s.Logs[0].Lines[0].Old = id(77) },
		func(s *api.State) { s.Logs[0].Lines[0].New = id(77) },
		func(s *api.State) { s.Logs[1].Lines[0].Why = "x" },
		func(s *api.State) { s.Logs[1].Lines = nil },
		func(s *api.State) { s.Logs = nil },
		func(s *api.State) { s.Seq.Kind = 2 },
		func(s *api.State) { s.Seq.Branch = "x" },
		func(s *api.State) { s.Seq.Orig = id(77) },
		func(s *api.State) { s.Seq.Cur = id(77) },
		func(s *api.State) { s.Seq.Todo[0].Do = 2 },
		func(s *api.State) { s.Seq.Todo[1].Id = id(77) },
		func(s *api.State) { s.Seq.Done = 0 },
		func(s *api.State) { s.Seq.Made = 0 },
		func(s *api.State) { s.Seq.Stopped = false },
		func(s *api.State) { s.Mem[0].Key = id(77) },
		func(s *api.State) { s.Mem[0].Data = []byte("x") },
		func(s *api.State) { s.Mem = nil },
	} {
		s := whole()
		change(&s)
		if refs.Same(s, whole()) || refs.Same(whole(), s) || !refs.Same(s, s) {
			t.Errorf("change %d", k)
		}
	}
	if !refs.Same(api.State{}, api.State{Refs: []api.Ref{}, Logs: []api.Log{}, Mem: []api.Memory{}}) {
		t.Error("no list and an empty one")
	}
}

// States and transactions that may not be end all the same.
func TestWhatMayNotBe(t *testing.T) { // P1, P8
	odd := api.State{Logs: []api.Log{{Name: "x", Lines: make([]api.Line, 3)}, {}}, Refs: []api.Ref{{Name: "a"}, {Name: "a", Id: id(1)}, {}}, Mem: make([]api.Memory, 2), Seq: api.Seq{Done: -1}}
	for _, tx := range []api.Tx{{}, moves(move("", 0, 0)), moves(move("x", 5, 0), move("x", 7, 8), move("/", 1, 1)), {HasSeq: true, Seq: api.Seq{Kind: -4, Done: 9}}, {Mem: make([]api.Memory, 3)}} {
		refs.Check(odd, tx)
		refs.Apply(odd, tx)
		refs.Apply(api.State{}, tx)
	}
	if !refs.Same(odd, odd) {
		t.Error("it is not the same as itself")
	}
}

func disk() *simfs.FS {
	f, _ := simfs.New(1<<24, 1<<24)
	return f
}

func open(t *testing.T, f *simfs.FS, want api.State) *refs.Book {
	t.Helper()
	b, e := refs.Open(f)
	if e != api.OK || !refs.Same(b.State(), want) {
		t.Fatal(e)
	}
	return b
}

func TestBook(t *testing.T) { // P1003
	f := disk()
	b := open(t, f, api.State{})
	s := api.State{}
	txs := []api.Tx{
		{HasHead: true, Head: "main"},
		moves(move("main", 0, 1)),
		{HasSeq: true, Seq: seq(), Mem: []api.Memory{{Key: id(5), Data: []byte("x")}}},
		{Moves: []api.Move{move("main", 1, 2)}, HasSeq: true},
	}
	for _, tx := range txs {
		if e := b.Do(tx); e != api.OK {
			t.Fatal(e)
		}
		s = refs.Apply(s, tx)
		if !refs.Same(b.State(), s) {
			t.Fatal("State is another one")
		}
	}
	at := f.Ops()
	for tx, want := range map[*api.Tx]api.Errno{
		{}: api.ErrArg, {Moves: []api.Move{move("main", 1, 2)}}: api.ErrOld, {HasHead: true, Head: "/"}: api.ErrName} {
		if e := b.Do(*tx); e != want || f.Ops() != at || !refs.Same(b.State(), s) {
			t.Error(e)
		}
	}
	_, records, _ := wal.Open(f, "journal")
	if len(records) != len(txs) {
		t.Fatal("the journal has", len(records), "records")
	}
	for k, r := range records {
		if want, _ := codec.EncodeTx(txs[k]); string(r) != string(want) {
			t.Errorf("record %d", k)
		}
	}
	f.Crash()
	b = open(t, f, s)
	if e := b.Do(moves(move("main", 2, 0))); e != api.OK {
		t.Fatal(e)
	}
	open(t, f, refs.Apply(s, moves(move("main", 2, 0))))
}

func TestOpenRefuses(t *testing.T) { // P1003
	good, _ := codec.EncodeTx(moves(move("a", 0, 1)))
	twice := wal.Encode(good, good)
	for k, x := range []struct {
		b    []byte
		want api.Errno
	}{
		{[]byte("no journal"), api.ErrBad},
		{wal.Encode(good), api.OK},
		{wal.Encode([]byte("x")), api.ErrBad},
		{wal.Encode(good, append(good, 0)), api.ErrBad},
		{wal.Encode(nil), api.ErrBad},
		{twice, api.ErrBad},
		{twice[:len(twice)-1], api.OK},
		{wal.Encode([]byte{0, 0, 0, 0, 0}), api.ErrBad},
	} {
		f := disk()
		f.Write("journal", x.b)
		b, e := refs.Open(f)
		if e != x.want || (b == nil) != (e != api.OK) {
			t.Errorf("%d: %v, not %v", k, e, x.want)
		}
	}
	f := disk()
	f.Stop(1)
	f.SyncDir("")
	if b, e := refs.Open(f); e != api.ErrDead || b != nil {
		t.Error(e)
	}
}

func TestWithoutRoom(t *testing.T) { // P1003, P5
	f, _ := simfs.New(150, 1000)
	b, _ := refs.Open(f)
	if e := b.Do(moves(move("a", 0, 1))); e != api.OK {
		t.Fatal(e)
	}
	s := b.State()
	if e := b.Do(moves(move("b", 0, 1))); e != api.ErrFull || !refs.Same(b.State(), s) {
		t.Error(e)
	}
	open(t, f, s)
}

// TestCrashes cuts Do off at every operation, with all picks.
func TestCrashes(t *testing.T) { // P1004
	first := moves(move("a", 0, 1), move("b", 0, 1))
	second := api.Tx{HasHead: true, Head: "b", Moves: []api.Move{move("a", 1, 2), move("b", 1, 0)}, Mem: []api.Memory{{Key: id(4)}}}
	ahead := refs.Apply(api.State{}, first)
	behind := refs.Apply(ahead, second)
	for stop := 1; stop <= 4; stop++ {
		for pick := range 500 {
			f := disk()
			b := open(t, f, api.State{})
			if e := b.Do(first); e != api.OK {
				t.Fatal(e)
			}
			f.Stop(stop)
			if e := b.Do(second); e != api.ErrDead || !refs.Same(b.State(), ahead) {
				t.Fatal(e)
			}
			f.Crash(pick)
			b, e := refs.Open(f)
			if e != api.OK || !refs.Same(b.State(), ahead) && !refs.Same(b.State(), behind) {
				t.Fatalf("stop %d, pick %d: %v", stop, pick, e)
			}
			open(t, f, b.State())
		}
	}
}

func TestNothingIsShared(t *testing.T) { // P2
	tx := api.Tx{HasSeq: true, Seq: seq(), Moves: []api.Move{move("a", 0, 1)}, Mem: []api.Memory{{Key: id(1), Data: []byte("data")}}}
	f := disk()
	b := open(t, f, api.State{})
	if e := b.Do(tx); e != api.OK {
		t.Fatal(e)
	}
	tx.Seq.Todo[0].Do = 2
	clear(tx.Mem[0].Data)
	clear(tx.Moves)
	s := b.State()
	if s.Seq.Todo[0].Do != 1 || string(s.Mem[0].Data) != "data" {
		t.Error("what was handed in is kept")
	}
	s.Seq.Todo[0].Do = 2
	clear(s.Mem[0].Data)
	clear(s.Refs)
	clear(s.Logs[0].Lines)
	again := b.State()
	if again.Seq.Todo[0].Do != 1 || string(again.Mem[0].Data) != "data" || again.Refs[0].Name != "a" || again.Logs[0].Lines[0].Why != "why" {
		t.Error("an answer shares memory")
	}
	next := refs.Apply(again, moves(move("a", 1, 2)))
	clear(next.Logs[0].Lines)
	clear(next.Mem[0].Data)
	if again.Logs[0].Lines[0].Why != "why" || string(again.Mem[0].Data) != "data" {
		t.Error("Apply's answer shares memory")
	}
}

// TestAsAPlainState plays random transactions on a book and by Apply.
func TestAsAPlainState(t *testing.T) { // P1003, P1004
	r := rand.New(rand.NewSource(11))
	f := disk()
	b := open(t, f, api.State{})
	s := api.State{}
	names := []string{"a", "b", "a/x", "b/y", "c"}
	done := 0
	for range 400 {
		tx := api.Tx{HasHead: r.Intn(3) == 0, Head: names[r.Intn(5)]}
		for range r.Intn(3) {
			tx.Moves = append(tx.Moves, move(names[r.Intn(5)], r.Intn(3), r.Intn(3)))
		}
		want := refs.Check(s, tx)
		if e := b.Do(tx); e != want {
			t.Fatal(e, want)
		}
		if want == api.OK {
			s = refs.Apply(s, tx)
			done++
		}
		if r.Intn(10) == 0 {
			f.Crash(r.Intn(9), r.Intn(9))
			b = open(t, f, s)
		}
	}
	open(t, f, s)
	if done < 50 {
		t.Error("few were done:", done)
	}
}
