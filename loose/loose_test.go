package loose_test

import (
	"bytes"
	"fmt"
	"slices"
	"strings"
	"testing"

	"selvage/api"
	"selvage/codec"
	"selvage/loose"
	"selvage/simfs"
	"selvage/sum"
)

func disk() *simfs.FS {
	f, _ := simfs.New(1<<24, 1<<24)
	return f
}

func blob(s string) api.Obj { return api.Obj{Kind: api.OBlob, Body: []byte(s)} }

func id(o api.Obj) api.Id {
	i, _ := codec.Id(o)
	return i
}

func put(t *testing.T, s *loose.Store, o api.Obj) api.Id {
	t.Helper()
	i, e := s.Put(o)
	if e != api.OK || i != id(o) {
		t.Fatal(i, e)
	}
	return i
}

func holds(t *testing.T, s *loose.Store, o api.Obj) {
	t.Helper()
	got, e := s.Get(id(o))
	is, e2 := s.Has(id(o))
	if e != api.OK || got.Kind != o.Kind || !bytes.Equal(got.Body, o.Body) || !is || e2 != api.OK {
		t.Fatalf("%v, %v, %v, %v", got, e, is, e2)
	}
}

func lacks(t *testing.T, s *loose.Store, i api.Id) {
	t.Helper()
	got, e := s.Get(i)
	is, e2 := s.Has(i)
	if e != api.ErrNone || got.Kind != 0 || got.Body != nil || is || e2 != api.OK {
		t.Fatalf("%v, %v, %v, %v", got, e, is, e2)
	}
}

func TestPath(t *testing.T) { // P501
	i := api.Id{0xab, 0xcd}
	if p := loose.Path(i); p != "o/ab/cd"+strings.Repeat("0", 60) || !simfs.Name(p) {
		t.Error(p)
	}
}

func TestPutAndGet(t *testing.T) { // P501 to P503
	f := disk()
	s := loose.Open(f)
	objects := []api.Obj{blob(""), blob("abc"), {Kind: api.OTree}, blob(strings.Repeat("x", api.MaxBlob))}
	for _, o := range objects {
		lacks(t, s, id(o))
		at := f.Ops()
		i := put(t, s, o)
		if f.Ops() != at+4 {
			t.Error("operations:", f.Ops()-at)
		}
		holds(t, s, o)
		want, _ := codec.EncodeObj(o)
		if b, e := f.Read(loose.Path(i)); e != api.OK || !bytes.Equal(b, want) {
			t.Errorf("%q, %v", b, e)
		}
		put(t, s, o)
		if f.Ops() != at+4 {
			t.Error("an object that is there is written again")
		}
		if l, _ := f.List(simfs.Dir(loose.Path(i))); len(l) != 1 {
			t.Error("files are left:", l)
		}
	}
	if b, _ := f.Read(loose.Path(id(blob("")))); string(b) != "b\x00\x00\x00\x00" {
		t.Errorf("the empty blob: %q", b)
	}
	f.Crash()
	for _, o := range objects {
		holds(t, loose.Open(f), o)
	}
}

func TestPutRefuses(t *testing.T) { // P502
	f := disk()
	s := loose.Open(f)
	for k, x := range []struct {
		o    api.Obj
		want api.Errno
	}{{api.Obj{}, api.ErrKind}, {blob(strings.Repeat("x", api.MaxBlob+1)), api.ErrLong}, {api.Obj{Kind: api.OCommit}, api.ErrCut}} {
		if i, e := s.Put(x.o); e != x.want || i != (api.Id{}) || f.Ops() != 0 {
			t.Errorf("%d: %v", k, e)
		}
	}
	p := loose.Path(id(blob("abc")))
	f.Write(p, []byte("other"))
	if i, e := s.Put(blob("abc")); e != api.ErrTwo || i != (api.Id{}) {
		t.Error("other bytes under the name:", e)
	}
	f.Stop(1)
	f.Sync(p)
	if _, e := s.Put(blob("abc")); e != api.ErrDead {
		t.Error("a stopped disk:", e)
	}
	if _, e := s.Put(api.Obj{}); e != api.ErrKind {
		t.Error("codec's error comes first:", e)
	}
}

func TestPutWithoutRoom(t *testing.T) { // P502
	f, _ := simfs.New(20, 100)
	s := loose.Open(f)
	o := blob("0123456789012345678")
	dir := simfs.Dir(loose.Path(id(o)))
	if i, e := s.Put(o); e != api.ErrFull || i != (api.Id{}) || f.Ops() != 2 {
		t.Error(e, f.Ops())
	}
	f.Write(dir+"/new", []byte("left"))
	if _, e := s.Put(o); e != api.ErrFull || f.Used() != 0 {
		t.Error("what was left beside is not taken away:", e, f.Used())
	}
	put(t, s, blob("0123"))
	f, _ = simfs.New(100, 10)
	if _, e := loose.Open(f).Put(o); e != api.ErrLong || f.Ops() != 1 {
		t.Error(e, f.Ops())
	}
}

func TestGetRefuses(t *testing.T) { // P503
	f := disk()
	s := loose.Open(f)
	i := put(t, s, blob("abc"))
	f.Write(loose.Path(i), []byte("b\x00\x00\x00\x03abd"))
	if o, e := s.Get(i); e != api.ErrSum || o.Body != nil || o.Kind != 0 {
		t.Error(e)
	}
	if is, e := s.Has(i); !is || e != api.OK {
		t.Error("Has asks the bytes:", e)
	}
	for bad, want := range map[string]api.Errno{"b": api.ErrCut, "x\x00\x00\x00\x00": api.ErrKind, "b\x00\x00\x00\x00a": api.ErrMore} {
		j := sum.Of([]byte(bad))
		f.Write(loose.Path(j), []byte(bad))
		if o, e := s.Get(j); e != want || o.Body != nil {
			t.Errorf("%q: %v", bad, e)
		}
	}
	lacks(t, s, api.Id{})
	lacks(t, s, api.Id{5})
	f.Stop(1)
	f.SyncDir("")
	if _, e := s.Get(i); e != api.ErrDead {
		t.Error("Get on a stopped disk:", e)
	}
	if is, e := s.Has(i); e != api.ErrDead || is {
		t.Error("Has on a stopped disk:", e)
	}
	if l, e := s.All(); e != api.ErrDead || l != nil {
		t.Error("All on a stopped disk:", e)
	}
	if e := s.Drop(i); e != api.ErrDead {
		t.Error("Drop on a stopped disk:", e)
	}
}

func TestAllAndDrop(t *testing.T) { // P503
	f := disk()
	s := loose.Open(f)
	if l, e := s.All(); len(l) != 0 || e != api.OK {
		t.Error("an empty disk:", l, e)
	}
	var want []api.Id
	for k := range 600 {
		want = append(want, put(t, s, blob(fmt.Sprint(k))))
	}
	slices.SortFunc(want, func(a, b api.Id) int { return bytes.Compare(a[:], b[:]) })
	h := strings.Repeat("0", 62)
	for _, p := range []string{"o/00/new", "o/00/" + h[1:], "o/00/" + h + "0", "o/" + h, "o/0/" + h, "o/zz/" + h, "x/00/" + h, "o/00/g" + h[1:], "o/000/" + h[1:]} {
		f.Write(p, []byte("x"))
	}
	if l, e := s.All(); e != api.OK || !slices.Equal(l, want) {
		t.Fatalf("%d objects, %v", len(l), e)
	}
	at := f.Ops()
	gone := []api.Id{want[9], want[3], want[9], {}, want[500]}
	in := slices.Clone(gone)
	if e := s.Drop(gone...); e != api.OK || f.Ops() > at+6 || f.Ops() < at+5 || !slices.Equal(in, gone) {
		t.Error(e, f.Ops()-at)
	}
	f.Crash()
	want = slices.Delete(want, 500, 501)
	want = slices.Delete(want, 9, 10)
	want = slices.Delete(want, 3, 4)
	if l, _ := s.All(); !slices.Equal(l, want) {
		t.Errorf("%d objects", len(l))
	}
	at = f.Ops()
	if e := s.Drop(gone...); e != api.OK || f.Ops() != at {
		t.Error("objects that are not there:", e)
	}
	if e := s.Drop(); e != api.OK || f.Ops() != at {
		t.Error("no objects:", e)
	}
}

// Objects go by their Ids, rising; each directory is synced once, behind all of them.
func TestDropInOrder(t *testing.T) { // P503
	place := func(first, last byte) api.Id { return api.Id{0: first, 31: last} }
	ids := []api.Id{place(2, 1), place(1, 2), place(1, 1)}
	for stop := 1; stop <= 6; stop++ {
		f := disk()
		for _, i := range ids {
			f.Write(loose.Path(i), nil)
			f.SyncDir(simfs.Dir(loose.Path(i)))
		}
		f.Stop(stop)
		e := loose.Open(f).Drop(ids...)
		if (e == api.ErrDead) != (stop < 6) {
			t.Fatal(stop, e)
		}
		f.Crash()
		l, _ := loose.Open(f).All()
		want := []api.Id{place(1, 1), place(1, 2), place(2, 1)}
		if stop >= 5 {
			want = want[2:]
		}
		if stop == 6 {
			want = nil
		}
		if !slices.Equal(l, want) {
			t.Errorf("stop %d: %v", stop, l)
		}
	}
	f := disk()
	for _, i := range ids {
		f.Write(loose.Path(i), nil)
	}
	f.Stop(2)
	loose.Open(f).Drop(ids...)
	f.Crash(3, 1)
	if l, _ := loose.Open(f).All(); !slices.Equal(l, []api.Id{place(1, 2), place(2, 1)}) {
		t.Errorf("the first one that goes is not the lowest: %v", l)
	}
}

// TestCrashes cuts Put off at every operation, with all picks.
func TestCrashes(t *testing.T) { // P504
	one, two := blob("one"), blob("two")
	for stop := 1; stop <= 5; stop++ {
		for pick := range 100 {
			f := disk()
			s := loose.Open(f)
			put(t, s, one)
			f.Stop(stop)
			_, e := s.Put(two)
			if (e == api.OK) != (stop == 5) {
				t.Fatal(stop, e)
			}
			f.Crash(pick%5, pick/5)
			s = loose.Open(f)
			holds(t, s, one)
			if is, _ := s.Has(id(two)); is {
				holds(t, s, two)
			} else if stop == 5 {
				t.Fatal("an object that was put is lost")
			}
			put(t, s, two)
			holds(t, s, two)
		}
	}
}

func TestNothingIsShared(t *testing.T) { // P2
	s := loose.Open(disk())
	o := blob("abc")
	i := put(t, s, o)
	clear(o.Body)
	got, _ := s.Get(i)
	clear(got.Body)
	holds(t, s, blob("abc"))
}
