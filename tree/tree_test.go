package tree_test

import (
	"bytes"
	"fmt"
	"math/rand"
	"slices"
	"strings"
	"testing"

	"selvage/api"
	"selvage/codec"
	"selvage/loose"
	"selvage/simfs"
	"selvage/store"
	"selvage/tree"
)

func file(path, data string) api.File {
	return api.File{Path: path, Kind: api.KFile, Data: []byte(data)}
}

func files(paths ...string) []api.File {
	var l []api.File
	for _, p := range paths {
		l = append(l, file(p, "x"))
	}
	return l
}

func same(a, b api.File) bool {
	return a.Path == b.Path && a.Kind == b.Kind && bytes.Equal(a.Data, b.Data)
}

func newStore() (*simfs.FS, *store.Store) {
	f, _ := simfs.New(1<<30, 1<<30)
	s, _ := store.Open(f)
	return f, s
}

func id(o api.Obj) api.Id {
	i, _ := codec.Id(o)
	return i
}

func blob(s string) api.Obj { return api.Obj{Kind: api.OBlob, Body: []byte(s)} }

func treeOf(t *testing.T, l ...api.Entry) api.Obj {
	t.Helper()
	b, e := codec.EncodeTree(l)
	if e != api.OK {
		t.Fatal(e)
	}
	return api.Obj{Kind: api.OTree, Body: b}
}

func entry(name string, kind int, i api.Id) api.Entry {
	return api.Entry{Name: name, Kind: kind, Id: i}
}

// row tells n files of a directory.
func row(dir string, n int) []api.File {
	var l []api.File
	for k := range n {
		l = append(l, file(fmt.Sprintf("%s%04d", dir, k), ""))
	}
	return l
}

func TestCheck(t *testing.T) { // P1501
	n40 := strings.Repeat("n", 40)
	deep := strings.Repeat("d/", 7) + "d"
	for k, x := range []struct {
		l    []api.File
		want api.Errno
	}{
		{nil, api.OK},
		{files("a", "a-", "a.b/c", "b/c/d", deep), api.OK},
		{files(n40 + "/" + n40), api.OK},
		{[]api.File{{Path: "a", Kind: 1}, {Path: "b", Kind: 2}, {Path: "c", Kind: 3}}, api.OK},
		{[]api.File{{Path: "a", Kind: 1, Data: make([]byte, 65536)}}, api.OK},
		{append(row("a/", 500), row("b/", 500)...), api.OK},
		{row("a/", 512), api.OK},
		{append(append(row("a/", 500), row("b/", 500)...), api.File{}), api.ErrMany},
		{[]api.File{{Path: "a", Kind: 4}}, api.ErrKind},
		{[]api.File{{Path: "", Kind: 0}}, api.ErrKind},
		{[]api.File{{Path: "a", Kind: -1}}, api.ErrKind},
		{files(""), api.ErrName},
		{files("/a"), api.ErrName},
		{files("a/"), api.ErrName},
		{files("a//b"), api.ErrName},
		{files("a/../b"), api.ErrName},
		{files("."), api.ErrName},
		{files("a\x00"), api.ErrName},
		{files(n40 + "n"), api.ErrName},
		{files(deep + "/d"), api.ErrName},
		{[]api.File{{Path: "/", Kind: 1, Data: make([]byte, 65537)}}, api.ErrName},
		{[]api.File{file("b", ""), {Path: "a", Kind: 1, Data: make([]byte, 65537)}}, api.ErrLong},
		{files("b", "a"), api.ErrOrder},
		{files("a", "a"), api.ErrOrder},
		{files("b", "a", ""), api.ErrOrder},
		{files("b", "", "a"), api.ErrName},
		{files("a", "a/b"), api.ErrDir},
		{files("a", "a-", "a.", "a/b/c"), api.ErrDir},
		{files("a/b", "a/b-", "a/b/c"), api.ErrDir},
		{files("a", "a/b", "a"), api.ErrDir},
		{row("a/", 513), api.ErrMany},
		{row("", 513), api.ErrMany},
		{append(row("a/", 513), files("a")...), api.ErrOrder},
		{append(row("a/", 513), api.File{}), api.ErrKind},
	} {
		if e := tree.Check(x.l); e != x.want {
			t.Errorf("%d: %v, not %v", k, e, x.want)
		}
		if o, i, e := tree.Objects(x.l); e != x.want || e != api.OK && (o != nil || i != api.Id{}) {
			t.Errorf("%d: Objects: %v, not %v", k, e, x.want)
		}
	}
	var dirs []api.File
	for k := range 513 {
		dirs = append(dirs, file(fmt.Sprintf("a/%03d/x", k), ""))
	}
	if e := tree.Check(dirs); e != api.ErrMany {
		t.Error("directories are entries:", e)
	}
	if e := tree.Check(dirs[1:]); e != api.OK {
		t.Error(e)
	}
}

func TestObjects(t *testing.T) { // P1502
	o, root, e := tree.Objects(nil)
	if e != api.OK || len(o) != 1 || o[0].Kind != api.OTree || len(o[0].Body) != 0 || root != id(o[0]) {
		t.Errorf("the empty tree: %v, %v", o, e)
	}
	x := blob("x")
	inner := treeOf(t, entry("b", api.KFile, id(x)))
	outer := treeOf(t, entry("a", api.KTree, id(inner)))
	o, root, e = tree.Objects([]api.File{file("a/b", "x")})
	check(t, o, x, inner, outer)
	if e != api.OK || root != id(outer) {
		t.Error(e)
	}
	// Names are in another order than paths; what is the same stands once.
	l := []api.File{file("a-", "x"), {Path: "a/b", Kind: api.KFile, Data: []byte("x")}, {Path: "c/b", Kind: api.KFile, Data: []byte("x")}, {Path: "d", Kind: api.KExec}, {Path: "e", Kind: api.KLink}}
	o, root, e = tree.Objects(l)
	outer = treeOf(t, entry("a", api.KTree, id(inner)), entry("a-", api.KFile, id(x)), entry("c", api.KTree, id(inner)),
		entry("d", api.KExec, id(blob(""))), entry("e", api.KLink, id(blob(""))))
	check(t, o, x, blob(""), inner, outer)
	if e != api.OK || root != id(outer) {
		t.Error(e)
	}
}

// check asks that these are the objects, by their Ids rising.
func check(t *testing.T, got []api.Obj, want ...api.Obj) {
	t.Helper()
	slices.SortFunc(want, func(a, b api.Obj) int {
		i, j := id(a), id(b)
		return bytes.Compare(i[:], j[:])
	})
	if !slices.EqualFunc(got, want, func(a, b api.Obj) bool { return a.Kind == b.Kind && bytes.Equal(a.Body, b.Body) }) {
		t.Errorf("%v, not %v", got, want)
	}
}

func TestWriteAndRead(t *testing.T) { // P1502, P1503, P1505
	_, s := newStore()
	for k, l := range [][]api.File{
		nil,
		files("a", "a-", "a.b/c", "b/c/d", "b/c/e"),
		{{Path: "x", Kind: 2, Data: []byte("run")}, {Path: "y", Kind: 3, Data: []byte("x")}, {Path: "z", Kind: 1}},
		append(row("a/", 500), row("b/c/d/e/f/g/h/", 500)...),
	} {
		i, e := tree.Write(s, l)
		if e != api.OK {
			t.Fatal(k, e)
		}
		_, root, _ := tree.Objects(l)
		got, e := tree.Read(s, i)
		if e != api.OK || i != root || !slices.EqualFunc(got, l, same) {
			t.Errorf("%d: %v", k, e)
		}
	}
	if i, e := tree.Write(s, files("b", "a")); e != api.ErrOrder || i != (api.Id{}) {
		t.Error(e)
	}
}

func TestWriteInOrder(t *testing.T) { // P1502: by their Ids, rising
	l := files("a", "b/c", "d")
	objects, _, _ := tree.Objects(l)
	for n := range objects {
		f, s := newStore()
		f.Stop(4*n + 4)
		if i, e := tree.Write(s, l); e != api.ErrDead || i != (api.Id{}) {
			t.Fatal(e)
		}
		f.Crash(1, 1, 1, 1, 1, 1, 1, 1, 1, 1)
		got, _ := loose.Open(f).All()
		for k, i := range got {
			if i != id(objects[k]) {
				t.Errorf("%d objects were put in another order", n)
			}
		}
		if len(got) < n {
			t.Errorf("%d objects, not %d", len(got), n)
		}
	}
}

func TestReadRefuses(t *testing.T) { // P1503
	f, s := newStore()
	put := func(o api.Obj) api.Id {
		i, e := s.Put(o)
		if e != api.OK {
			t.Fatal(e)
		}
		return i
	}
	x := put(blob("x"))
	empty := put(treeOf(t))
	commit, _ := codec.EncodeCommit(api.Commit{Tree: empty})
	c := put(api.Obj{Kind: api.OCommit, Body: commit})
	lost := api.Id{1}
	broken := put(blob("broken"))
	f.Write(loose.Path(broken), []byte("other"))
	nest := func(n int, i api.Id, kind int) api.Id { // an entry n names deep
		for range n {
			i, kind = put(treeOf(t, entry("d", kind, i))), api.KTree
		}
		return i
	}
	for k, x := range []struct {
		i    api.Id
		want api.Errno
	}{
		{empty, api.OK},
		{lost, api.ErrNone},
		{api.Id{}, api.ErrNone},
		{x, api.ErrKind},
		{c, api.ErrKind},
		{broken, api.ErrSum},
		{nest(1, x, api.KTree), api.ErrKind},
		{nest(1, empty, api.KFile), api.ErrKind},
		{nest(1, c, api.KFile), api.ErrKind},
		{nest(1, c, api.KTree), api.ErrKind},
		{nest(1, empty, api.KTree), api.ErrBad},
		{nest(1, lost, api.KTree), api.ErrNone},
		{nest(2, lost, api.KFile), api.ErrNone},
		{nest(2, broken, api.KFile), api.ErrSum},
		{nest(8, x, api.KFile), api.OK},
		{nest(9, x, api.KFile), api.ErrBad},
		{nest(9, lost, api.KFile), api.ErrBad},
		{nest(8, empty, api.KTree), api.ErrBad},
		{nest(8, lost, api.KTree), api.ErrNone},
		{put(treeOf(t, entry("a", api.KFile, lost), entry("b", api.KTree, x))), api.ErrNone},
		{put(treeOf(t, entry("a", api.KTree, x), entry("b", api.KFile, lost))), api.ErrKind},
		{put(treeOf(t, entry("a", api.KTree, nest(1, broken, api.KLink)), entry("a-", api.KFile, lost))), api.ErrSum},
	} {
		if l, e := tree.Read(s, x.i); e != x.want || e != api.OK && l != nil {
			t.Errorf("%d: %v, not %v", k, e, x.want)
		}
	}
	f.Stop(1)
	f.SyncDir("")
	if l, e := tree.Read(s, empty); e != api.ErrDead || l != nil {
		t.Error(e)
	}
}

func TestReadOfManyFiles(t *testing.T) { // P1503
	_, s := newStore()
	put := func(o api.Obj) api.Id {
		i, _ := s.Put(o)
		return i
	}
	x := put(blob("x"))
	dir := func(n int, last api.Entry) api.Id {
		var l []api.Entry
		for k := range n {
			l = append(l, entry(fmt.Sprintf("%03d", k), api.KFile, x))
		}
		if last.Name != "" {
			l = append(l, last)
		}
		return put(treeOf(t, l...))
	}
	none := api.Entry{}
	root := func(b api.Id) api.Id {
		return put(treeOf(t, entry("a", api.KTree, dir(500, none)), entry("b", api.KTree, b)))
	}
	if l, e := tree.Read(s, root(dir(500, none))); e != api.OK || len(l) != 1000 {
		t.Error(e)
	}
	for k, y := range []struct {
		last api.Entry
		want api.Errno
	}{
		{entry("z", api.KFile, x), api.ErrMany},
		{entry("z", api.KFile, api.Id{1}), api.ErrNone},
		{entry("z", api.KTree, x), api.ErrKind},
		{entry("z", api.KTree, put(treeOf(t))), api.ErrBad},
		{entry("z", api.KTree, dir(1, none)), api.ErrMany},
	} {
		if l, e := tree.Read(s, root(dir(500, y.last))); e != y.want || l != nil {
			t.Errorf("%d: %v, not %v", k, e, y.want)
		}
	}
}

func TestDiff(t *testing.T) { // P1504
	a := []api.File{file("a", "1"), file("b", "1"), file("c", "1"), {Path: "d", Kind: api.KFile}, file("e", "1")}
	b := []api.File{file("a-", "1"), file("b", "1"), file("c", "2"), {Path: "d", Kind: api.KExec}, {Path: "e", Kind: api.KLink, Data: []byte("2")}, file("f/g", "")}
	want := []api.Change{
		{Old: a[0]}, {New: b[0]}, {Old: a[2], New: b[2]}, {Old: a[3], New: b[3]}, {Old: a[4], New: b[4]}, {New: b[5]},
	}
	sameChange := func(x, y api.Change) bool { return same(x.Old, y.Old) && same(x.New, y.New) }
	if got := tree.Diff(a, b); !slices.EqualFunc(got, want, sameChange) {
		t.Errorf("%v", got)
	}
	for k := range want {
		want[k].Old, want[k].New = want[k].New, want[k].Old
	}
	if got := tree.Diff(b, a); !slices.EqualFunc(got, want, sameChange) {
		t.Errorf("%v", got)
	}
	if got := tree.Diff(a, slices.Clone(a)); len(got) != 0 {
		t.Errorf("%v", got)
	}
	if got := tree.Diff([]api.File{{Path: "a", Kind: 1}}, []api.File{{Path: "a", Kind: 1, Data: []byte{}}}); len(got) != 0 {
		t.Error("no list and an empty one")
	}
	if len(tree.Diff(nil, nil)) != 0 {
		t.Error("changes of nothing")
	}
}

func TestOneIdForTheSameFiles(t *testing.T) { // P1505
	r := rand.New(rand.NewSource(19))
	ids := map[api.Id]string{}
	for range 500 {
		var l []api.File
		for _, p := range []string{"a", "b/c", "b/d", "e"} {
			if r.Intn(2) == 0 {
				l = append(l, api.File{Path: p, Kind: 1 + r.Intn(2), Data: []byte{byte('0' + r.Intn(2))}})
			}
		}
		_, i, e := tree.Objects(l)
		if told, is := ids[i]; e != api.OK || is && told != fmt.Sprint(l) {
			t.Fatalf("%v and %v have one Id: %v", l, told, e)
		}
		ids[i] = fmt.Sprint(l)
	}
	seen := map[string]int{}
	for _, told := range ids {
		if seen[told]++; seen[told] > 1 {
			t.Error("two Ids of the same files")
		}
	}
}

func TestNothingIsShared(t *testing.T) { // P2
	l := files("a", "b")
	o, _, _ := tree.Objects(l)
	for _, x := range o {
		clear(append(x.Body, "!!!!"...))
	}
	m := files("c")
	d := tree.Diff(l, m)
	for _, c := range d {
		clear(c.Old.Data)
		clear(c.New.Data)
	}
	if string(l[0].Data) != "x" || string(l[1].Data) != "x" || string(m[0].Data) != "x" {
		t.Error("memory is shared")
	}
}
