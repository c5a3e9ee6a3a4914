package store_test

import (
	"bytes"
	"fmt"
	"slices"
	"strings"
	"testing"

	"selvage/api"
	"selvage/codec"
	"selvage/loose"
	"selvage/pack"
	"selvage/simfs"
	"selvage/store"
	"selvage/sum"
)

func disk() *simfs.FS {
	f, _ := simfs.New(1<<24, 1<<24)
	return f
}

func blob(s string) api.Obj { return api.Obj{Kind: api.OBlob, Body: []byte(s)} }

func id(o api.Obj) api.Id {
	i, _ := codec.Id(o)
	return i
}

func ids(l ...api.Obj) []api.Id {
	var out []api.Id
	for _, o := range l {
		out = append(out, id(o))
	}
	slices.SortFunc(out, func(a, b api.Id) int { return bytes.Compare(a[:], b[:]) })
	return out
}

func open(t *testing.T, f *simfs.FS) *store.Store {
	t.Helper()
	s, e := store.Open(f)
	if e != api.OK || s == nil {
		t.Fatal(e)
	}
	return s
}

func put(t *testing.T, s *store.Store, l ...api.Obj) {
	t.Helper()
	for _, o := range l {
		if i, e := s.Put(o); e != api.OK || i != id(o) {
			t.Fatal(i, e)
		}
	}
}

func keep(t *testing.T, s *store.Store, want int, l ...api.Obj) {
	t.Helper()
	if n, e := s.Keep(ids(l...)...); e != api.OK || n != want {
		t.Fatalf("Keep: %d, %v", n, e)
	}
}

// holds asks that just these are there.
func holds(t *testing.T, s *store.Store, l ...api.Obj) {
	t.Helper()
	for _, o := range l {
		got, e := s.Get(id(o))
		is, e2 := s.Has(id(o))
		if e != api.OK || got.Kind != o.Kind || !bytes.Equal(got.Body, o.Body) || !is || e2 != api.OK {
			t.Fatalf("%.9q: %v, %v, %v", o.Body, e, is, e2)
		}
	}
	if all, e := s.All(); e != api.OK || !slices.Equal(all, ids(l...)) {
		t.Fatalf("%d objects, %v", len(all), e)
	}
}

func lacks(t *testing.T, s *store.Store, i api.Id) {
	t.Helper()
	got, e := s.Get(i)
	is, e2 := s.Has(i)
	if e != api.ErrNone || got.Body != nil || got.Kind != 0 || is || e2 != api.OK {
		t.Fatalf("%v, %v, %v", e, is, e2)
	}
}

func counts(t *testing.T, s *store.Store, packs, loose int) {
	t.Helper()
	if s.Packs() != packs || s.Loose() != loose {
		t.Errorf("%d packs, %d loose ones, not %d, %d", s.Packs(), s.Loose(), packs, loose)
	}
}

func packOf(l ...api.Obj) (string, []byte) {
	b, _ := pack.Build(l...)
	return "p/" + sum.Hex(sum.Of(b)), b
}

var a, b, c, d = blob("aa"), blob("bb"), api.Obj{Kind: api.OTree}, blob(strings.Repeat("d", 500))

func TestOpen(t *testing.T) { // P801
	f := disk()
	p1, b1 := packOf(a, b)
	p2, b2 := packOf(b, c)
	f.Write(p1, b1)
	f.Write(p2, b2)
	f.Write("p/new", []byte("left"))
	f.Write("p/"+strings.Repeat("0", 63), nil)
	f.Write("p/"+strings.Repeat("0", 63)+"g", nil)
	f.Write("p/q/"+strings.Repeat("0", 64), nil)
	s := open(t, f)
	counts(t, s, 2, 0)
	holds(t, s, a, b, c)
	lacks(t, s, id(d))

	wrong := "p/" + strings.Repeat("0", 64)
	f.Write(wrong, b1)
	if s, e := store.Open(f); e != api.ErrSum || s != nil {
		t.Error("a pack under another name:", e)
	}
	f.Remove(wrong)
	junk := []byte("no pack")
	f.Write("p/"+sum.Hex(sum.Of(junk)), junk)
	if s, e := store.Open(f); e != api.ErrBad || s != nil {
		t.Error("no pack:", e)
	}
	f.Stop(1)
	f.Sync(p1)
	if s, e := store.Open(f); e != api.ErrDead || s != nil {
		t.Error("a stopped disk:", e)
	}
}

// Of several files that may not be the first one's error is answered.
func TestOpenInOrder(t *testing.T) { // P801
	junk := []byte("no pack")
	name := "p/" + sum.Hex(sum.Of(junk))
	for other, want := range map[string]api.Errno{"p/" + strings.Repeat("0", 64): api.ErrSum, "p/" + strings.Repeat("f", 64): api.ErrBad} {
		f := disk()
		f.Write(name, junk)
		f.Write(other, junk)
		if _, e := store.Open(f); e != want {
			t.Errorf("%v, not %v", e, want)
		}
	}
}

func TestPutAndGet(t *testing.T) { // P802
	f := disk()
	s := open(t, f)
	holds(t, s)
	put(t, s, a, b, c, a)
	counts(t, s, 0, 3)
	holds(t, s, a, b, c)
	lacks(t, s, id(d))
	lacks(t, s, api.Id{})
	for _, o := range []api.Obj{{}, {Kind: api.OCommit}} {
		if i, e := s.Put(o); e == api.OK || i != (api.Id{}) {
			t.Error(e)
		}
	}
	keep(t, s, 1, a, b)
	at := f.Ops()
	put(t, s, a, b)
	if f.Ops() != at {
		t.Error("an object of a pack is written again")
	}
	put(t, s, c)
	counts(t, s, 1, 1)
	holds(t, s, a, b, c)
	holds(t, open(t, f), a, b, c)
}

// A loose object is read ahead of that of a pack.
func TestLooseComesFirst(t *testing.T) { // P802
	f := disk()
	s := open(t, f)
	put(t, s, a)
	keep(t, s, 0, a)
	f.Write(loose.Path(id(a)), []byte("other"))
	if o, e := s.Get(id(a)); e != api.ErrSum || o.Body != nil {
		t.Error(e)
	}
	if l, e := s.All(); e != api.OK || !slices.Equal(l, ids(a)) {
		t.Error("an Id stands twice:", l, e)
	}
	counts(t, s, 1, 1)
	if _, e := s.Keep(id(a)); e != api.ErrSum {
		t.Error("Keep:", e)
	}
	put(t, s, a)
}

func TestReads(t *testing.T) { // P802
	s := open(t, disk())
	put(t, s, a, b)
	s.Get(id(a))
	s.Get(id(d))
	s.Has(id(a))
	s.All()
	keep(t, s, 0, a, b)
	s.Get(id(a))
	if s.Reads() != 3 {
		t.Error("Reads:", s.Reads())
	}
}

func TestKeep(t *testing.T) { // P803
	f := disk()
	s := open(t, f)
	put(t, s, a, b, c, d)
	at := f.Ops()
	keep(t, s, 2, a, b, a)
	counts(t, s, 1, 0)
	holds(t, s, a, b)
	if n := f.Ops() - at; n != 4+4+4 {
		t.Error("operations:", n)
	}
	p, bytes1 := packOf(a, b)
	if got, _ := f.List("p"); len(got) != 1 || got[0] != p {
		t.Error(got)
	}
	if got, _ := f.Read(p); !bytes.Equal(got, bytes1) {
		t.Error("other bytes")
	}
	at = f.Ops()
	keep(t, s, 0, b, a)
	if f.Ops() != at {
		t.Error("the same once more writes:", f.Ops()-at)
	}
	put(t, s, c)
	keep(t, s, 0, a, b, c)
	counts(t, s, 1, 0)
	f.Crash()
	holds(t, open(t, f), a, b, c)
	at = f.Ops()
	keep(t, s, 2, b)
	if f.Ops() != at+4+2 {
		t.Error("operations:", f.Ops()-at)
	}
	holds(t, s, b)
	at = f.Ops()
	keep(t, s, 1)
	if f.Ops() != at+2 {
		t.Error("operations:", f.Ops()-at)
	}
	counts(t, s, 0, 0)
	holds(t, s)
	if got, _ := f.List("p"); len(got) != 0 {
		t.Error("packs are left:", got)
	}
	at = f.Ops()
	keep(t, s, 0)
	if f.Ops() != at {
		t.Error("of nothing something goes")
	}
}

// What a new pack has is known before it is asked for one object.
func TestAllBehindKeep(t *testing.T) { // P802
	s := open(t, disk())
	put(t, s, a, b)
	keep(t, s, 0, a, b)
	if l, e := s.All(); e != api.OK || !slices.Equal(l, ids(a, b)) {
		t.Error(l, e)
	}
}

func TestKeepRefuses(t *testing.T) { // P803, P5
	f := disk()
	s := open(t, f)
	put(t, s, a, b)
	at := f.Ops()
	for _, l := range [][]api.Id{{id(d)}, {id(a), api.Id{}}, {id(a), id(b), id(d)}} {
		if n, e := s.Keep(l...); e != api.ErrNone || n != 0 {
			t.Error(n, e)
		}
	}
	f.Write(loose.Path(id(d)), []byte("other"))
	if n, e := s.Keep(id(a), id(d), api.Id{}); e != api.ErrSum || n != 0 {
		t.Error(n, e)
	}
	if n, e := s.Keep(id(a), api.Id{}, id(d)); e != api.ErrNone || n != 0 {
		t.Error(n, e)
	}
	if f.Ops() != at+1 {
		t.Error("a refused Keep writes")
	}
	counts(t, s, 0, 3)
	// What cannot be read may go all the same.
	if n, e := s.Keep(id(b)); e != api.OK || n != 2 {
		t.Error(n, e)
	}
	holds(t, s, b)
}

func TestKeepWithoutRoom(t *testing.T) { // P803, P5
	for _, x := range []struct {
		capacity, most int
		want           api.Errno
	}{{2000, 1 << 20, api.ErrFull}, {1 << 20, 1200, api.ErrLong}} {
		f, _ := simfs.New(x.capacity, x.most)
		s := open(t, f)
		put(t, s, a)
		keep(t, s, 0, a)
		put(t, s, b, c, d)
		at := f.Ops()
		f.Write("p/new", []byte("left"))
		used := f.Used()
		if n, e := s.Keep(ids(a, b, d)...); e != x.want || n != 0 || f.Ops() != at+3 || f.Used() != used-4 {
			t.Error(n, e, f.Ops()-at)
		}
		counts(t, s, 1, 3)
		holds(t, s, a, b, c, d)
	}
}

// A file of the pack's name that holds other bytes is none.
func TestKeepOverOtherBytes(t *testing.T) { // P803
	f := disk()
	s := open(t, f)
	put(t, s, a, b)
	p, want := packOf(a)
	f.Write(p, []byte("other"))
	keep(t, s, 1, a)
	if got, _ := f.Read(p); !bytes.Equal(got, want) {
		t.Error("other bytes are left")
	}
	counts(t, s, 1, 0)
	// One that holds just its bytes is the pack, though nobody told of it.
	q, bytes2 := packOf(c)
	put(t, s, c)
	f.Write(q, bytes2)
	keep(t, s, 1, c)
	holds(t, s, c)
	counts(t, s, 1, 0)
}

func TestWhileTheDiskHasStopped(t *testing.T) { // P802
	f := disk()
	s := open(t, f)
	put(t, s, a)
	keep(t, s, 0, a)
	put(t, s, b)
	f.Stop(1)
	f.SyncDir("")
	counts(t, s, 0, 0)
	if o, e := s.Get(id(a)); e != api.ErrDead || o.Body != nil {
		t.Error("Get:", e)
	}
	if is, e := s.Has(id(a)); e != api.ErrDead || is {
		t.Error("Has:", e)
	}
	if l, e := s.All(); e != api.ErrDead || l != nil {
		t.Error("All:", e)
	}
	if n, e := s.Keep(); e != api.ErrDead || n != 0 {
		t.Error("Keep:", e)
	}
	if _, e := s.Put(b); e != api.ErrDead {
		t.Error("Put of a loose one:", e)
	}
	put(t, s, a) // a pack has it
	f.Crash()
	counts(t, s, 1, 1)
	holds(t, s, a, b)
}

// A pack is none any more as soon as it was taken away.
func TestPacksGoAtOnce(t *testing.T) { // P802
	f := disk()
	p1, b1 := packOf(a)
	p2, b2 := packOf(b)
	for p, b := range map[string][]byte{p1: b1, p2: b2} {
		f.Write(p, b)
		f.Sync(p)
	}
	f.SyncDir("p")
	s := open(t, f)
	first, second := a, b
	if p2 < p1 {
		first, second = b, a
	}
	f.Stop(2)
	if n, e := s.Keep(); e != api.ErrDead || n != 0 {
		t.Fatal(n, e)
	}
	if _, e := s.Put(first); e != api.ErrDead {
		t.Error("the first pack went:", e)
	}
	put(t, s, second)
	f.Crash(1)
	lacks(t, s, id(first))
	holds(t, s, second)
}

// TestCrashes cuts Keep off at every operation, with all picks.
func TestCrashes(t *testing.T) { // P804
	start := func() (*simfs.FS, *store.Store) {
		f := disk()
		for _, o := range []api.Obj{a, b} {
			p, bytes := packOf(o, c)
			f.Write(p, bytes)
			f.Sync(p)
		}
		f.SyncDir("p")
		s := open(t, f)
		put(t, s, blob("l1"), blob("l2"), c)
		return f, s
	}
	all := []api.Obj{a, b, c, blob("l1"), blob("l2")}
	for k, l := range [][]api.Obj{{a, blob("l1")}, {b, c}, {}, all} {
		_, s := start()
		f, _ := start()
		at := f.Ops()
		if _, e := open(t, f).Keep(ids(l...)...); e != api.OK {
			t.Fatal(e)
		}
		ops := f.Ops() - at
		for stop := 1; stop <= ops; stop++ {
			for pick := range 40 {
				f, s = start()
				f.Stop(stop)
				if n, e := s.Keep(ids(l...)...); e != api.ErrDead || n != 0 {
					t.Fatal(n, e)
				}
				f.Crash(pick%4, pick/4, pick%3, pick%2, pick*31)
				s = open(t, f)
				got, e := s.All()
				if e != api.OK {
					t.Fatal(e)
				}
				for _, i := range got {
					if !slices.Contains(ids(all...), i) {
						t.Fatal("an object came")
					}
				}
				for _, o := range l {
					if g, e := s.Get(id(o)); e != api.OK || !bytes.Equal(g.Body, o.Body) {
						t.Fatalf("list %d, stop %d, pick %d: %v", k, stop, pick, e)
					}
				}
				if n, e := s.Keep(ids(l...)...); e != api.OK || n != len(got)-len(ids(l...)) {
					t.Fatal(n, e)
				}
				holds(t, s, l...)
			}
		}
	}
}

func TestCrashesOfPut(t *testing.T) { // P804
	for stop := 1; stop <= 4; stop++ {
		for pick := range 40 {
			f := disk()
			s := open(t, f)
			put(t, s, a, c)
			keep(t, s, 0, a, c)
			put(t, s, b)
			f.Stop(stop)
			s.Put(d)
			f.Crash(pick%3, pick/3)
			s = open(t, f)
			if is, _ := s.Has(id(d)); is {
				holds(t, s, a, b, c, d)
			} else {
				holds(t, s, a, b, c)
			}
		}
	}
}

func TestNothingIsShared(t *testing.T) { // P2
	s := open(t, disk())
	put(t, s, a, b)
	keep(t, s, 0, a, b)
	for range 2 {
		o, _ := s.Get(id(a))
		clear(append(o.Body, "!!!!"...))
		l, _ := s.All()
		clear(l)
		holds(t, s, a, b)
	}
	l := []api.Id{id(b), id(a), id(b)}
	s.Keep(l...)
	if !slices.Equal(l, []api.Id{id(b), id(a), id(b)}) {
		t.Error("what was handed in was changed")
	}
}

func TestManyObjects(t *testing.T) { // P803
	f := disk()
	s := open(t, f)
	var l []api.Obj
	for k := range 500 {
		l = append(l, blob(strings.Repeat("x", 50)+fmt.Sprint(k)))
	}
	put(t, s, l...)
	keep(t, s, 0, l...)
	counts(t, s, 1, 0)
	holds(t, open(t, f), l...)
	keep(t, s, 400, l[:100]...)
	holds(t, open(t, f), l[:100]...)
}
