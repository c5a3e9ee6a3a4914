package seq_test

import (
	"fmt"
	"slices"
	"testing"

	"selvage/api"
	"selvage/seq"
)

func id(k int) api.Id { return api.Id{0: byte(k), 31: 1} }

// some tells a sequence of three steps, of which one is done.
func some() api.Seq {
	return api.Seq{Kind: api.SRebase, Branch: "main", Orig: id(1), Cur: id(2), Done: 1, Made: 1,
		Todo: []api.Todo{{Do: api.TPick, Id: id(3)}, {Do: api.TDrop, Id: id(4)}, {Do: api.TSquash, Id: id(5)}}}
}

func with(f func(s *api.Seq)) api.Seq {
	s := some()
	f(&s)
	return s
}

func TestCheck(t *testing.T) { // P2001
	for k, x := range []struct {
		change func(s *api.Seq)
		want   api.Errno
	}{
		{func(s *api.Seq) {}, api.OK},
		{func(s *api.Seq) { s.Stopped = true }, api.OK},
		{func(s *api.Seq) { s.Done, s.Made = 0, 0 }, api.OK},
		{func(s *api.Seq) { s.Kind = 0; s.Branch = "" }, api.ErrIdle},
		{func(s *api.Seq) { s.Kind = 3; s.Branch = "" }, api.ErrKind},
		{func(s *api.Seq) { s.Kind = 300 }, api.ErrKind},
		{func(s *api.Seq) { s.Branch = "/"; s.Done = 9 }, api.ErrName},
		{func(s *api.Seq) { s.Orig = api.Id{} }, api.ErrArg},
		{func(s *api.Seq) { s.Cur = api.Id{} }, api.ErrArg},
		{func(s *api.Seq) { s.Done = 4 }, api.ErrArg},
		{func(s *api.Seq) { s.Made = 2 }, api.ErrArg},
		{func(s *api.Seq) { s.Todo = slices.Repeat(s.Todo, 34) }, api.ErrMany},
		{func(s *api.Seq) { s.Todo = slices.Repeat(s.Todo, 34); s.Done = len(s.Todo) }, api.ErrMany},
		{func(s *api.Seq) { s.Todo[2].Do = 4; s.Done = 3 }, api.ErrKind},
		{func(s *api.Seq) { s.Todo[0].Id = api.Id{} }, api.ErrArg},
		{func(s *api.Seq) { s.Done = 3 }, api.ErrArg},
		{func(s *api.Seq) { s.Todo, s.Done, s.Made = nil, 0, 0 }, api.ErrArg},
	} {
		s := with(x.change)
		if e := seq.Check(s); e != x.want {
			t.Errorf("%d: %v, not %v", k, e, x.want)
		}
		if x.want == api.OK {
			continue
		}
		if step, is := seq.Next(s); is || step != (api.Todo{}) {
			t.Errorf("%d: Next: %v", k, step)
		}
		for _, got := range []api.Seq{seq.Did(s, id(9), true), seq.Stop(s), seq.Skip(s)} {
			if !seq.Same(got, api.Seq{}) {
				t.Errorf("%d: %v", k, got)
			}
		}
	}
}

func TestNext(t *testing.T) { // P2002
	for k, x := range []struct {
		done, made int
		want       api.Todo
	}{
		{0, 0, api.Todo{Do: api.TPick, Id: id(3)}},
		{1, 0, api.Todo{Do: api.TDrop, Id: id(4)}},
		{2, 0, api.Todo{Do: api.TPick, Id: id(5)}},
		{2, 1, api.Todo{Do: api.TSquash, Id: id(5)}},
	} {
		s := with(func(s *api.Seq) { s.Done, s.Made = x.done, x.made })
		if got, is := seq.Next(s); !is || got != x.want {
			t.Errorf("%d: %v, %v", k, got, is)
		}
		if s.Todo[2].Do != api.TSquash {
			t.Error("the sequence was changed")
		}
	}
}

func TestDidStopSkip(t *testing.T) { // P2002
	stopped := with(func(s *api.Seq) { s.Stopped = true })
	for k, x := range []struct {
		got    api.Seq
		change func(s *api.Seq)
	}{
		{seq.Did(some(), id(9), true), func(s *api.Seq) { s.Done, s.Made, s.Cur = 2, 2, id(9) }},
		{seq.Did(some(), id(9), false), func(s *api.Seq) { s.Done, s.Cur = 2, id(9) }},
		{seq.Did(stopped, id(9), true), func(s *api.Seq) { s.Done, s.Made, s.Cur = 2, 2, id(9) }},
		{seq.Stop(some()), func(s *api.Seq) { s.Stopped = true }},
		{seq.Stop(stopped), func(s *api.Seq) { s.Stopped = true }},
		{seq.Skip(some()), func(s *api.Seq) { s.Done = 2 }},
		{seq.Skip(stopped), func(s *api.Seq) { s.Done = 2 }},
	} {
		if !seq.Same(x.got, with(x.change)) {
			t.Errorf("%d: %v", k, x.got)
		}
	}
	last := with(func(s *api.Seq) { s.Done = 2 })
	for k, got := range []api.Seq{seq.Did(last, id(9), true), seq.Skip(last)} {
		if !seq.Same(got, api.Seq{}) || got.Todo != nil {
			t.Errorf("%d: something is left: %v", k, got)
		}
	}
	if s := seq.Stop(last); s.Done != 2 || !s.Stopped {
		t.Error(s)
	}
}

func TestSame(t *testing.T) { // P2002
	for k, change := range []func(s *api.Seq){
		func(s *api.Seq) { s.Kind = 1 },
		func(s *api.Seq) { s.Branch = "x" },
		func(s *api.Seq) { s.Orig = id(77) },
		func(s *api.Seq) { s.Cur = id(77) },
		func(s *api.Seq) { s.Todo[1].Do = 1 },
		func(s *api.Seq) { s.Todo[1].Id = id(77) },
		func(s *api.Seq) { s.Todo = s.Todo[:2] },
		func(s *api.Seq) { s.Done = 0 },
		func(s *api.Seq) { s.Made = 0 },
		func(s *api.Seq) { s.Stopped = true },
	} {
		if s := with(change); seq.Same(s, some()) || seq.Same(some(), s) || !seq.Same(s, s) {
			t.Errorf("change %d", k)
		}
	}
	if !seq.Same(api.Seq{}, api.Seq{Todo: []api.Todo{}}) {
		t.Error("no list and an empty one")
	}
}

func TestItEnds(t *testing.T) { // P2003
	for n := 1; n <= 100; n++ {
		s := some()
		s.Todo, s.Done, s.Made = slices.Repeat(s.Todo[:1], n), 0, 0
		steps := 0
		for seq.Check(s) == api.OK {
			for range steps % 3 {
				s = seq.Stop(s)
			}
			s = seq.Did(s, id(9), steps%2 == 0)
			steps++
		}
		if steps != n || seq.Check(s) != api.ErrIdle {
			t.Fatalf("%d steps, not %d", steps, n)
		}
	}
}

func TestNothingIsShared(t *testing.T) { // P2
	s := some()
	for _, got := range []api.Seq{seq.Did(s, id(9), true), seq.Stop(s), seq.Skip(s)} {
		clear(got.Todo)
	}
	if fmt.Sprint(s) != fmt.Sprint(some()) {
		t.Error("memory is shared")
	}
}
