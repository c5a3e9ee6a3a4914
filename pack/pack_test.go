package pack_test

import (
	"bytes"
	"crypto/sha256"
	"encoding/binary"
	"fmt"
	"math/rand"
	"slices"
	"strings"
	"testing"

	"selvage/api"
	"selvage/codec"
	"selvage/delta"
	"selvage/pack"
)

func blob(s string) api.Obj { return api.Obj{Kind: api.OBlob, Body: []byte(s)} }

func id(o api.Obj) api.Id {
	i, _ := codec.Id(o)
	return i
}

func sorted(l []api.Obj) []api.Obj {
	type named struct {
		id api.Id
		o  api.Obj
	}
	var names []named
	for _, o := range l {
		names = append(names, named{id(o), o})
	}
	slices.SortFunc(names, func(a, b named) int { return bytes.Compare(a.id[:], b.id[:]) })
	l = nil
	for _, x := range names {
		l = append(l, x.o)
	}
	return l
}

// entry is one as it stands in a pack: its base (from 1 on; 0: none) and its bytes.
type entry struct {
	letter string
	base   int
	bytes  []byte
}

// entriesOf works the entries of objects in order out as the chapter says.
func entriesOf(l []api.Obj) []entry {
	var out []entry
	chain := 0
	for k, o := range l {
		x := entry{letter: " btc"[o.Kind : o.Kind+1], bytes: o.Body}
		if k > 0 && l[k-1].Kind == o.Kind && chain < 8 {
			if d := delta.Make(l[k-1].Body, o.Body); len(d) < len(o.Body) {
				x.base, x.bytes = k, d
			}
		}
		if chain++; x.base == 0 {
			chain = 0
		}
		out = append(out, x)
	}
	return out
}

// write lays a pack of objects with these entries.
func write(l []api.Obj, entries []entry) []byte {
	num := binary.BigEndian.AppendUint32
	b := num([]byte("SLVGPAK1"), uint32(len(l)))
	var ids []api.Id
	for _, o := range l {
		ids = append(ids, id(o))
	}
	for first := range 256 {
		n := 0
		for _, i := range ids {
			if int(i[0]) <= first {
				n++
			}
		}
		b = num(b, uint32(n))
	}
	for _, i := range ids {
		b = append(b, i[:]...)
	}
	at := len(b) + 4*len(l)
	for _, x := range entries {
		b = num(b, uint32(at))
		at += 9 + len(x.bytes)
	}
	for _, x := range entries {
		b = num(append(b, x.letter...), uint32(x.base))
		b = append(num(b, uint32(len(x.bytes))), x.bytes...)
	}
	return summed(b)
}

func summed(b []byte) []byte {
	s := sha256.Sum256(b)
	return append(bytes.Clone(b), s[:]...)
}

func build(t *testing.T, l ...api.Obj) []byte {
	t.Helper()
	b, e := pack.Build(l...)
	if e != api.OK {
		t.Fatal(e)
	}
	return b
}

func same(a, b api.Obj) bool { return a.Kind == b.Kind && bytes.Equal(a.Body, b.Body) }

// some tells objects of all kinds, with rows of blobs that are nearly the same.
func some(n int) []api.Obj {
	tree, _ := codec.EncodeTree([]api.Entry{{Name: "a", Kind: 1, Id: api.Id{1}}})
	com, _ := codec.EncodeCommit(api.Commit{Tree: api.Id{1}})
	l := []api.Obj{blob(""), {Kind: api.OTree}, {Kind: api.OTree, Body: tree}, {Kind: api.OCommit, Body: com}}
	for k := range n {
		l = append(l, blob(strings.Repeat("x", 60)+fmt.Sprint(k)))
	}
	return l
}

func TestBuild(t *testing.T) { // P701
	if b := build(t); len(b) != 8+4+1024+32 || !bytes.Equal(b, write(nil, nil)) {
		t.Errorf("%d bytes", len(b))
	}
	for _, n := range []int{0, 1, 2, 5, 300} {
		l := sorted(some(n))
		if !bytes.Equal(build(t, l...), write(l, entriesOf(l))) {
			t.Errorf("%d blobs", n)
		}
	}
	chained := false
	for _, x := range entriesOf(sorted(some(300))) {
		chained = chained || x.base > 0
	}
	if !chained {
		t.Error("no entry is a delta")
	}
}

func TestDeltasThatDoNotPay(t *testing.T) { // P701: just a delta that is shorter than the body is one
	for n := 1; n < 40; n++ {
		l := sorted([]api.Obj{blob(strings.Repeat("x", n)), blob(strings.Repeat("x", n) + "y")})
		b := build(t, l...)
		if !bytes.Equal(b, write(l, entriesOf(l))) {
			t.Errorf("%d bytes", n)
		}
	}
}

func TestChains(t *testing.T) { // P701: no chain is longer than 8
	var l []api.Obj
	for k := range 40 {
		l = append(l, blob(strings.Repeat("x", 100)+fmt.Sprint(k)))
	}
	l = sorted(l)
	b := build(t, l...)
	at := 8 + 4 + 1024 + 40*36
	for k := range 40 {
		base := int(binary.BigEndian.Uint32(b[at+1:]))
		if want := k; k%9 == 0 && base != 0 || k%9 != 0 && base != want {
			t.Errorf("object %d: base %d", k, base)
		}
		at += 9 + int(binary.BigEndian.Uint32(b[at+5:]))
	}
}

func TestBuildRefuses(t *testing.T) { // P701
	for k, x := range []struct {
		l    []api.Obj
		want api.Errno
	}{
		{[]api.Obj{blob("a"), blob("a"), {}}, api.ErrKind},
		{[]api.Obj{blob("a"), {Kind: api.OCommit}, {}}, api.ErrCut},
		{[]api.Obj{blob(strings.Repeat("x", api.MaxBlob+1))}, api.ErrLong},
		{[]api.Obj{blob("a"), blob("b"), blob("a")}, api.ErrIs},
		{[]api.Obj{blob(""), {Kind: api.OTree}}, api.OK},
	} {
		b, e := pack.Build(x.l...)
		if e != x.want || e != api.OK && b != nil {
			t.Errorf("%d: %v", k, e)
		}
	}
}

func TestParseIdsFind(t *testing.T) { // P702, P703
	r := rand.New(rand.NewSource(8))
	for _, n := range []int{0, 1, 300} {
		l := sorted(some(n))
		b := build(t, l...)
		for range 5 {
			r.Shuffle(len(l), func(i, j int) { l[i], l[j] = l[j], l[i] })
			if !bytes.Equal(build(t, l...), b) {
				t.Fatal("the order of objects counts")
			}
		}
		l = sorted(l)
		got, e := pack.Parse(b)
		if e != api.OK || !slices.EqualFunc(got, l, same) {
			t.Errorf("Parse: %v", e)
		}
		ids, e := pack.Ids(b)
		if e != api.OK || len(ids) != len(l) {
			t.Errorf("Ids: %v", e)
		}
		for k, o := range l {
			if ids[k] != id(o) {
				t.Fatalf("Ids: %d", k)
			}
			if got, e := pack.Find(b, ids[k]); e != api.OK || !same(got, o) {
				t.Fatalf("Find: %d: %v", k, e)
			}
		}
		for _, i := range []api.Id{{}, {1}, id(blob("none")), {0: 255, 31: 255}} {
			if o, e := pack.Find(b, i); e != api.ErrNone || o.Kind != 0 || o.Body != nil {
				t.Errorf("Find of what is not there: %v", e)
			}
		}
	}
}

// The greatest blobs, and a pack of many bytes.
func TestManyBytes(t *testing.T) { // P701, P702
	r := rand.New(rand.NewSource(10))
	same1 := make([]byte, api.MaxBlob)
	r.Read(same1)
	var l []api.Obj
	for k := range 260 {
		b := bytes.Clone(same1)
		if k < 258 {
			r.Read(b)
		} else {
			b[k] ^= 1
		}
		l = append(l, api.Obj{Kind: api.OBlob, Body: b})
	}
	for _, x := range [][]api.Obj{l, l[258:], {l[0], blob(string(l[0].Body[:65535]))}} {
		x = sorted(x)
		b := build(t, x...)
		if !bytes.Equal(b, write(x, entriesOf(x))) {
			t.Errorf("%d blobs", len(x))
		}
		if got, e := pack.Parse(b); e != api.OK || !slices.EqualFunc(got, x, same) {
			t.Errorf("%d blobs: Parse: %v", len(x), e)
		}
	}
}

func bad(t *testing.T, what string, b []byte) {
	t.Helper()
	if l, e := pack.Parse(b); e != api.ErrBad || l != nil {
		t.Errorf("%s: Parse: %v", what, e)
	}
	if l, e := pack.Ids(b); e != api.ErrBad || l != nil {
		t.Errorf("%s: Ids: %v", what, e)
	}
	if o, e := pack.Find(b, api.Id{1}); e != api.ErrBad || o.Body != nil {
		t.Errorf("%s: Find: %v", what, e)
	}
}

func TestParseRefuses(t *testing.T) { // P702
	l := sorted(some(3))
	b := build(t, l...)
	bad(t, "nothing", nil)
	bad(t, "more", append(bytes.Clone(b), 0))
	bad(t, "more, summed", summed(append(bytes.Clone(b[:len(b)-32]), 0)))
	for n := 0; n < len(b); n += 7 {
		bad(t, fmt.Sprint("a beginning of ", n), b[:n])
		bad(t, fmt.Sprint("a summed beginning of ", n), summed(b[:n]))
	}
	r := rand.New(rand.NewSource(9))
	for k := range b {
		x := bytes.Clone(b)
		x[k] ^= byte(1 << r.Intn(8))
		bad(t, fmt.Sprint("byte ", k), x)
		if k < len(b)-32 {
			x = summed(x[:len(x)-32])
			if k < len(b)-50 { // in the last entry's body another object may stand, under a wrong Id all the same
				bad(t, fmt.Sprint("summed byte ", k), x)
			}
		}
	}
}

// Packs that hold objects well, but not as Build lays them, are none.
func TestParseOfOtherForms(t *testing.T) { // P702
	l := sorted(some(20))
	good := entriesOf(l)
	if _, e := pack.Parse(write(l, good)); e != api.OK {
		t.Fatal(e)
	}
	for k, x := range good {
		other := slices.Clone(good)
		if x.base > 0 {
			other[k] = entry{x.letter, 0, l[k].Body}
		} else if k > 0 && l[k-1].Kind == l[k].Kind {
			other[k] = entry{x.letter, k, delta.Make(l[k-1].Body, l[k].Body)}
		} else {
			continue
		}
		bad(t, fmt.Sprint("entry ", k, " laid the other way"), write(l, other))
		other[k] = entry{x.letter, k + 1, x.bytes}
		bad(t, fmt.Sprint("entry ", k, " over itself"), write(l, other))
		other[k] = entry{x.letter, len(l) + 9, x.bytes}
		bad(t, fmt.Sprint("entry ", k, " over none"), write(l, other))
	}
	swapped := slices.Clone(l)
	swapped[0], swapped[1] = swapped[1], swapped[0]
	bad(t, "out of order", write(swapped, entriesOf(swapped)))
	twice := append([]api.Obj{l[0]}, l...)
	bad(t, "twice", write(twice, entriesOf(twice)))
	wrong := []api.Obj{{Kind: api.OTree, Body: []byte("xyz")}}
	bad(t, "no object", write(wrong, entriesOf(wrong)))
	bomb := []entry{{"b", 0, []byte("x")}, {"b", 1, []byte("\x00\x00\x00\x01\xff\xff\xff\xff\x01\x00\x00\x00\x00\x00\x00\x00\x01")}}
	bad(t, "a delta of very many bytes", write(sorted([]api.Obj{blob("x"), blob("y")}), bomb))
}

func TestNothingIsShared(t *testing.T) { // P2
	l := sorted(some(3))
	b := build(t, l...)
	got, _ := pack.Parse(b)
	for _, o := range got {
		clear(append(o.Body, "!!!!!!!!"...))
	}
	if again, e := pack.Parse(b); e != api.OK || !slices.EqualFunc(again, l, same) {
		t.Error(e)
	}
	if !slices.EqualFunc(l, sorted(some(3)), same) {
		t.Error("an object was changed")
	}
}
