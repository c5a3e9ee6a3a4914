package simfs_test

import (
	"bytes"
	"fmt"
	"math/rand"
	"slices"
	"strings"
	"testing"

	"selvage/api"
	"selvage/simfs"
)

func disk(t *testing.T) *simfs.FS {
	t.Helper()
	f, e := simfs.New(1<<20, 1<<20)
	if e != api.OK || f == nil {
		t.Fatal(e)
	}
	return f
}

func want(t *testing.T, what string, got, want api.Errno) {
	t.Helper()
	if got != want {
		t.Errorf("%s: %v, not %v", what, got, want)
	}
}

func holds(t *testing.T, f *simfs.FS, path, data string) {
	t.Helper()
	b, e := f.Read(path)
	if e != api.OK || string(b) != data {
		t.Errorf("%s: %q, %v, not %q", path, b, e, data)
	}
}

func lacks(t *testing.T, f *simfs.FS, path string) {
	t.Helper()
	if b, e := f.Read(path); e != api.ErrNone || b != nil {
		t.Errorf("%s: %q, %v, though it is none", path, b, e)
	}
}

// all does what must go well.
func all(t *testing.T, l ...api.Errno) {
	t.Helper()
	for k, e := range l {
		if e != api.OK {
			t.Fatalf("step %d: %v", k, e)
		}
	}
}

func TestNew(t *testing.T) { // P201
	for _, x := range []struct {
		capacity, most int
		want           api.Errno
	}{{0, 0, 0}, {-1, 0, api.ErrArg}, {0, -1, api.ErrArg}, {-5, -5, api.ErrArg}, {1 << 40, 1 << 40, 0}} {
		f, e := simfs.New(x.capacity, x.most)
		want(t, "New", e, x.want)
		if (f == nil) != (e != api.OK) {
			t.Error("a disk beside an error, or none")
		}
	}
	f := disk(t)
	if l, e := f.List(""); len(l) != 0 || e != api.OK || f.Used() != 0 || f.Ops() != 0 {
		t.Error("a new disk is not empty")
	}
}

func TestName(t *testing.T) { // P201
	long := strings.Repeat("a", 100)
	for _, s := range []string{"a", "z", "0", "9", ".", "_", "-", "..", "a/b", "a/b/c.d-e_f", long, "a/" + long[:98]} {
		if !simfs.Name(s) {
			t.Errorf("Name(%q)", s)
		}
	}
	for _, s := range []string{"", "/", "/a", "a/", "a//b", long + "a", "A", "Z", "a b", "a\x00", "é", "a:", "`", "{", "@", "[", "a\n"} {
		if simfs.Name(s) {
			t.Errorf("Name(%q), though it is none", s)
		}
		if d := simfs.Dir(s); d != "" {
			t.Errorf("Dir(%q): %q", s, d)
		}
	}
	for s, d := range map[string]string{"a": "", "a/b": "a", "a/b/c": "a/b", "./.": "."} {
		if simfs.Dir(s) != d {
			t.Errorf("Dir(%q): %q", s, simfs.Dir(s))
		}
	}
}

func TestReadAndList(t *testing.T) { // P202
	f := disk(t)
	for _, p := range []string{"b", "a", "d/y", "d/x", "d/e/z", "d-e"} {
		all(t, f.Write(p, []byte(p)))
	}
	for dir, l := range map[string]string{"": "a b d-e", "d": "d/x d/y", "d/e": "d/e/z", "none": "", "a": ""} {
		got, e := f.List(dir)
		if e != api.OK || strings.Join(got, " ") != l {
			t.Errorf("List(%q): %v, %v", dir, got, e)
		}
	}
	for _, dir := range []string{"/", "d/", "A"} {
		l, e := f.List(dir)
		want(t, "List", e, api.ErrName)
		if l != nil {
			t.Error("paths beside an error")
		}
	}
	holds(t, f, "d/e/z", "d/e/z")
	lacks(t, f, "c")
	lacks(t, f, "d")
	_, e := f.Read("/a")
	want(t, "Read", e, api.ErrName)
	_, e = f.Read("")
	want(t, "Read", e, api.ErrName)
	if f.Used() != 1+1+3+3+5+3 {
		t.Error("Used:", f.Used())
	}
}

func TestWriteAndAppend(t *testing.T) { // P203
	f := disk(t)
	all(t, f.Write("a", []byte("one")), f.Append("a", []byte("two")), f.Append("b", []byte("x")), f.Append("b", nil))
	holds(t, f, "a", "onetwo")
	holds(t, f, "b", "x")
	all(t, f.Write("a", []byte("z")), f.Write("c", nil))
	holds(t, f, "a", "z")
	holds(t, f, "c", "")
	if f.Used() != 2 {
		t.Error("Used:", f.Used())
	}
	want(t, "Write", f.Write("a/", nil), api.ErrName)
	want(t, "Append", f.Append("", nil), api.ErrName)
	want(t, "Sync", f.Sync("A"), api.ErrName)
	want(t, "Sync", f.Sync("none"), api.ErrNone)
}

func TestRoom(t *testing.T) { // P203: most is asked ahead of capacity
	f, _ := simfs.New(10, 6)
	want(t, "Write", f.Write("a", make([]byte, 7)), api.ErrLong)
	lacks(t, f, "a")
	all(t, f.Write("a", make([]byte, 6)), f.Write("b", make([]byte, 4)))
	want(t, "Write", f.Write("c", []byte("x")), api.ErrFull)
	want(t, "Write", f.Write("c", make([]byte, 7)), api.ErrLong)
	want(t, "Write", f.Write("/", make([]byte, 7)), api.ErrName)
	want(t, "Append", f.Append("b", []byte("x")), api.ErrFull)
	want(t, "Append", f.Append("a", []byte("x")), api.ErrLong)
	all(t, f.Write("c", nil), f.Write("b", []byte("xyz")), f.Write("a", []byte("1234567")[:6]), f.Append("c", []byte("1")))
	want(t, "Append", f.Append("c", []byte("1")), api.ErrFull)
	all(t, f.Rename("b", "c"))
	if f.Used() != 9 {
		t.Error("Used behind Rename:", f.Used())
	}
	all(t, f.Remove("a"))
	if f.Used() != 3 {
		t.Error("Used behind Remove:", f.Used())
	}
	all(t, f.Write("d", make([]byte, 6)))
}

func TestRenameAndRemove(t *testing.T) { // P204
	f := disk(t)
	all(t, f.Write("d/a", []byte("1")), f.Write("d/b", []byte("2")))
	want(t, "Rename", f.Rename("d/a", "a"), api.ErrDir)
	want(t, "Rename", f.Rename("d/none", "a"), api.ErrDir)
	want(t, "Rename", f.Rename("d/none", "d/a"), api.ErrNone)
	want(t, "Rename", f.Rename("d/none", "d/none"), api.ErrNone)
	want(t, "Rename", f.Rename("d/a", "d/"), api.ErrName)
	want(t, "Rename", f.Rename("/a", "d/a"), api.ErrName)
	want(t, "Remove", f.Remove("d/none"), api.ErrNone)
	want(t, "Remove", f.Remove("d//b"), api.ErrName)
	want(t, "SyncDir", f.SyncDir("d/"), api.ErrName)
	all(t, f.SyncDir(""), f.SyncDir("nothing"), f.Rename("d/a", "d/b"))
	lacks(t, f, "d/a")
	holds(t, f, "d/b", "1")
	all(t, f.Remove("d/b"))
	lacks(t, f, "d/b")
	all(t, f.Write("d/c", []byte("3")), f.SyncDir("d"), f.Rename("d/c", "d/c"))
	if n := f.Crash(0, 0); n != 1 {
		t.Errorf("the same name is a change: %d picks", n)
	}
}

func TestOpsAndStop(t *testing.T) { // P202, P205
	f := disk(t)
	f.Write("a", []byte("x"))
	f.Write("/", nil)
	f.Append("a", nil)
	f.Sync("none")
	f.Rename("a", "b/c")
	f.Remove("none")
	f.SyncDir("/")
	f.Read("a")
	f.List("")
	if f.Ops() != 7 {
		t.Fatal("Ops:", f.Ops())
	}
	f.Stop(2)
	want(t, "Write", f.Write("/", nil), api.ErrName)
	want(t, "Remove", f.Remove("a"), api.ErrDead)
	if f.Ops() != 8 || f.Used() != 1 {
		t.Error("Ops, Used:", f.Ops(), f.Used())
	}
	for k, e := range []api.Errno{f.Write("/", nil), f.Append("a", nil), f.Sync("a"), f.Rename("a", "b"), f.Remove("a"), f.SyncDir("")} {
		want(t, fmt.Sprint("operation ", k), e, api.ErrDead)
	}
	if b, e := f.Read("/"); e != api.ErrDead || b != nil {
		t.Error("Read of a stopped disk:", e)
	}
	if l, e := f.List("/"); e != api.ErrDead || l != nil {
		t.Error("List of a stopped disk:", e)
	}
	f.Stop(0)
	want(t, "behind Stop(0)", f.Sync("a"), api.ErrDead)
	f.Stop(3)
	want(t, "behind Stop(3)", f.Sync("a"), api.ErrDead)
	if f.Ops() != 8 {
		t.Error("Ops:", f.Ops())
	}
	f.Stop(1)
	f.Crash(1, 2)
	all(t, f.Write("a", []byte("y")))
	holds(t, f, "a", "y")
}

func TestStopAgain(t *testing.T) { // P205
	f := disk(t)
	f.Stop(1)
	f.Stop(3)
	all(t, f.Write("a", nil), f.Write("a", nil))
	f.Stop(-1)
	all(t, f.Write("a", nil), f.Write("a", nil))
	f.Stop(1)
	want(t, "Sync", f.Sync("a"), api.ErrDead)
	lacksDead(t, f)
}

func lacksDead(t *testing.T, f *simfs.FS) {
	t.Helper()
	if _, e := f.Read("a"); e != api.ErrDead {
		t.Error("it has not stopped")
	}
	f.Crash()
	if l, e := f.List(""); e != api.OK || len(l) != 0 {
		t.Error("behind a crash without picks:", l, e)
	}
}

func TestTheExample(t *testing.T) { // P206
	for pick, left := range []string{"", "a", "ab", "\x00\x00", "a\x00", "", "a"} {
		f := disk(t)
		all(t, f.Write("a/x", []byte("ab")), f.SyncDir("a"))
		if n := f.Crash(pick); n != 1 {
			t.Fatalf("%d picks", n)
		}
		holds(t, f, "a/x", left)
		if f.Used() != len(left) {
			t.Error("Used:", f.Used())
		}
		if n := f.Crash(1); n != 0 {
			t.Error("what a crash left does not stay")
		}
		holds(t, f, "a/x", left)
	}
	f := disk(t)
	all(t, f.Write("a/x", []byte("ab")), f.SyncDir("a"))
	f.Crash(-1)
	holds(t, f, "a/x", "a\x00")
	f = disk(t)
	all(t, f.Write("a/x", []byte("ab")), f.SyncDir("a"))
	f.Crash(-12)
	holds(t, f, "a/x", "\x00\x00")
}

func TestCrashLeavesWhatStayed(t *testing.T) { // P206: the first pick is the bytes that stayed
	f := disk(t)
	all(t, f.Write("x", []byte("old")), f.Sync("x"), f.SyncDir(""), f.Write("x", []byte("new")))
	f.Crash(0)
	holds(t, f, "x", "old")
}

func TestCrashOfRowsOfWrites(t *testing.T) { // P206
	left := []string{"s",
		"sa", "sab", "s\x00\x00", "sa\x00",
		"sab",
		"c", "cd", "cde", "\x00\x00\x00", "c\x00\x00", "cd\x00",
		"", "f", "\x00", "fg", "f\x00"}
	for pick := range 2 * len(left) {
		f := disk(t)
		all(t, f.Write("x", []byte("s")), f.Sync("x"), f.SyncDir(""), f.Append("x", []byte("ab")), f.Append("x", nil),
			f.Write("x", []byte("cde")), f.Write("x", nil), f.Append("x", []byte("f")), f.Append("x", []byte("g")))
		if n := f.Crash(pick, 7); n != 1 {
			t.Fatalf("%d picks", n)
		}
		holds(t, f, "x", left[pick%len(left)])
		all(t, f.Append("x", []byte("!")), f.Sync("x"))
		f.Crash(3)
		holds(t, f, "x", left[pick%len(left)]+"!")
	}
}

func TestCrashOfNames(t *testing.T) { // P206
	left := []string{"old:1", "old:1 x:2", "x:1", "x:1 z:", "x:1", "x:1 y:3", "y:3", "new:4 y:3"}
	for pick := range 2 * len(left) {
		f := disk(t)
		all(t, f.Write("d/old", []byte("1")), f.Sync("d/old"), f.SyncDir("d"))
		all(t, f.Write("d/x", []byte("2")), f.Sync("d/x"), f.Rename("d/old", "d/x"))
		all(t, f.Write("d/z", nil), f.Sync("d/z"), f.Remove("d/z"))
		all(t, f.Write("d/y", []byte("3")), f.Sync("d/y"), f.Remove("d/x"), f.Write("d/new", []byte("4")), f.Sync("d/new"))
		if n := f.Crash(pick); n != 1 {
			t.Fatalf("%d picks", n)
		}
		var got []string
		l, _ := f.List("d")
		for _, p := range l {
			b, _ := f.Read(p)
			got = append(got, p[2:]+":"+string(b))
		}
		if w := left[pick%len(left)]; strings.Join(got, " ") != w {
			t.Errorf("%d changes stay: %v, not %s", pick, got, w)
		}
	}
}

func TestCrashInOrder(t *testing.T) { // P206: directories by their names, then files by their paths
	f := disk(t)
	for _, p := range []string{"b/f", "a-b", "a/f", "top"} {
		all(t, f.Write(p, []byte("xy")))
	}
	if n := f.Crash(2, 1, 1, 1, 2, 3, 4); n != 7 {
		t.Fatalf("%d picks", n)
	}
	holds(t, f, "a-b", "x")
	holds(t, f, "a/f", "xy")
	holds(t, f, "b/f", "\x00\x00")
	holds(t, f, "top", "x\x00")
	f = disk(t)
	for _, p := range []string{"b/f", "a/f", "top"} {
		all(t, f.Write(p, []byte("xy")))
	}
	if n := f.Crash(0, 1, 0, 2); n != 4 {
		t.Fatalf("%d picks", n)
	}
	holds(t, f, "a/f", "xy")
	lacks(t, f, "b/f")
	lacks(t, f, "top")
	if f.Used() != 2 {
		t.Error("Used counts files without names")
	}
}

func TestAFileWhoseRemovalIsLost(t *testing.T) { // P206
	f := disk(t)
	all(t, f.Write("a", []byte("1")), f.Sync("a"), f.SyncDir(""), f.Append("a", []byte("2")), f.Remove("a"))
	lacks(t, f, "a")
	all(t, f.Write("a", []byte("new")))
	if n := f.Crash(0, 1); n != 2 {
		t.Fatalf("%d picks", n)
	}
	holds(t, f, "a", "12")
	f = disk(t)
	all(t, f.Write("a", []byte("1")), f.Sync("a"), f.SyncDir(""), f.Remove("a"), f.SyncDir(""))
	if n := f.Crash(1); n != 0 {
		t.Fatalf("%d picks", n)
	}
	lacks(t, f, "a")
}

func TestWhatIsSyncedStays(t *testing.T) { // P207
	f := disk(t)
	all(t, f.Write("d/a", []byte("kept")), f.Sync("d/a"), f.SyncDir("d"))
	for k := range 5 {
		f.Crash(k, k+1)
		holds(t, f, "d/a", "kept")
	}
	f = disk(t)
	all(t, f.Write("d/a", []byte("kept")), f.Sync("d/a"))
	f.Crash(0)
	lacks(t, f, "d/a")
}

// A file that is replaced as P207 says is the elder or the newer one, whole.
func TestReplacing(t *testing.T) { // P207
	for stop := 1; stop <= 5; stop++ {
		for pick := range 60 {
			f := disk(t)
			all(t, f.Write("d/a", []byte("elder")), f.Sync("d/a"), f.SyncDir("d"))
			f.Stop(stop)
			f.Write("d/n", []byte("newer"))
			f.Sync("d/n")
			f.Rename("d/n", "d/a")
			f.SyncDir("d")
			f.Crash(pick%3, pick/3)
			b, e := f.Read("d/a")
			if e != api.OK || string(b) != "elder" && string(b) != "newer" || stop == 5 && string(b) != "newer" || stop < 4 && string(b) != "elder" {
				t.Fatalf("stop %d, pick %d: %q, %v", stop, pick, b, e)
			}
		}
	}
}

func TestNothingIsShared(t *testing.T) { // P2
	f := disk(t)
	in := []byte("abcdef")
	all(t, f.Write("a", in[:3]), f.Append("a", in[3:5]))
	if string(in) != "abcdef" {
		t.Error("what was handed in was changed")
	}
	clear(in)
	out, _ := f.Read("a")
	for k := range out[:cap(out)] {
		out[:cap(out)][k] = '!'
	}
	l, _ := f.List("")
	l[0] = "!"
	holds(t, f, "a", "abcde")
	all(t, f.Append("a", []byte("g")))
	holds(t, f, "a", "abcdeg")
	picks := []int{5, -7, 9}
	f.Crash(picks...)
	if !slices.Equal(picks, []int{5, -7, 9}) {
		t.Error("picks were changed")
	}
}

// TestAsPlainFiles plays random operations on a disk and on a map.
func TestAsPlainFiles(t *testing.T) { // P202 to P204
	r := rand.New(rand.NewSource(5))
	f := disk(t)
	plain := map[string][]byte{}
	paths := []string{"a", "b", "d/a", "d/b", "d/e/f"}
	for step := range 5000 {
		p, q := paths[r.Intn(len(paths))], paths[r.Intn(len(paths))]
		data := make([]byte, r.Intn(5))
		r.Read(data)
		_, is := plain[p]
		switch r.Intn(5) {
		case 0:
			all(t, f.Write(p, data))
			plain[p] = data
		case 1:
			all(t, f.Append(p, data))
			plain[p] = append(bytes.Clone(plain[p]), data...)
		case 2:
			if e := f.Rename(p, q); (e == api.OK) != (is && simfs.Dir(p) == simfs.Dir(q)) {
				t.Fatal(step, e)
			} else if e == api.OK && p != q {
				plain[q] = plain[p]
				delete(plain, p)
			}
		case 3:
			if e := f.Remove(p); (e == api.OK) != is {
				t.Fatal(step, e)
			}
			delete(plain, p)
		case 4:
			if e := f.Sync(p); (e == api.OK) != is {
				t.Fatal(step, e)
			}
		}
		used := 0
		for _, p := range paths {
			b, e := f.Read(p)
			w, is := plain[p]
			if (e == api.OK) != is || !bytes.Equal(b, w) {
				t.Fatal(step, p, e)
			}
			used += len(w)
		}
		if f.Used() != used || f.Ops() != step+1 {
			t.Fatal(step, f.Used(), f.Ops())
		}
	}
}
