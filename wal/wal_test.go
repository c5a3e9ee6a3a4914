package wal_test

import (
	"bytes"
	"crypto/sha256"
	"encoding/binary"
	"fmt"
	"strings"
	"testing"

	"selvage/api"
	"selvage/simfs"
	"selvage/wal"
)

// plain is Encode, written another way.
func plain(l ...string) []byte {
	b := []byte("SLVGWAL1")
	for k, r := range l {
		s := sha256.Sum256(append(binary.BigEndian.AppendUint64(nil, uint64(k)), r...))
		b = binary.BigEndian.AppendUint32(b, uint32(len(r)))
		b = append(append(append(b, s[:8]...), r...), 'C')
	}
	return b
}

func rows(l ...string) [][]byte {
	var out [][]byte
	for _, s := range l {
		out = append(out, []byte(s))
	}
	return out
}

func told(l [][]byte) string { return fmt.Sprintf("%q", l) }

func TestEncode(t *testing.T) { // P301
	for _, l := range [][]string{nil, {""}, {"a"}, {strings.Repeat("y", 300)}, {"a", "a", "", strings.Repeat("x", 70000)}} {
		if !bytes.Equal(wal.Encode(rows(l...)...), plain(l...)) {
			t.Errorf("%d records", len(l))
		}
		if got, at, e := wal.Parse(plain(l...)); e != api.OK || at != len(plain(l...)) || told(got) != told(rows(l...)) {
			t.Errorf("%d records: parsed: %v", len(l), e)
		}
	}
	b := wal.Encode([]byte("a"))
	if len(b) != 8+4+8+1+1 || !bytes.HasPrefix(b, []byte("SLVGWAL1\x00\x00\x00\x01")) || !bytes.HasSuffix(b, []byte("aC")) {
		t.Errorf("%q", b)
	}
}

func TestParseAllBeginnings(t *testing.T) { // P301
	l := []string{"one", "", "three"}
	b := plain(l...)
	for n := range len(b) + 1 {
		got, at, e := wal.Parse(b[:n])
		if n < 8 {
			if e != api.ErrBad || got != nil || at != 0 {
				t.Fatalf("%d bytes: %v", n, e)
			}
			continue
		}
		k := 0
		for k < len(l) && len(plain(l[:k+1]...)) <= n {
			k++
		}
		if e != api.OK || at != len(plain(l[:k]...)) || told(got) != told(rows(l[:k]...)) {
			t.Fatalf("%d bytes: %s, %d, %v", n, told(got), at, e)
		}
	}
}

func TestParseStopsAtAnyOtherByte(t *testing.T) { // P301
	b := plain("one", "two")
	first := len(plain("one"))
	for k := range b {
		x := bytes.Clone(b)
		x[k] ^= 1
		got, at, e := wal.Parse(x)
		switch {
		case k < 8:
			if e != api.ErrBad {
				t.Fatalf("byte %d: %v", k, e)
			}
		case k < first:
			if e != api.OK || at != 8 || len(got) != 0 {
				t.Fatalf("byte %d: %s, %d", k, told(got), at)
			}
		default:
			if e != api.OK || at != first || told(got) != told(rows("one")) {
				t.Fatalf("byte %d: %s, %d", k, told(got), at)
			}
		}
	}
	// The number of a record counts: the second one is none in the first one's place.
	moved := append([]byte("SLVGWAL1"), b[first:]...)
	if got, at, e := wal.Parse(moved); len(got) != 0 || at != 8 || e != api.OK {
		t.Errorf("a record in another one's place: %s", told(got))
	}
}

func TestParseOfLongRecords(t *testing.T) { // P301
	most := strings.Repeat("m", api.MaxRecord)
	if got, at, e := wal.Parse(plain(most)); e != api.OK || len(got) != 1 || at != 8+13+len(most) {
		t.Error("the longest record:", at, e)
	}
	if got, at, e := wal.Parse(plain("a", most+"m", "b")); e != api.OK || len(got) != 1 || at != len(plain("a")) {
		t.Error("a record that is too long:", at, e)
	}
	if got, _, e := wal.Parse([]byte("SLVGWAL1\xff\xff\xff\xff12345678")); e != api.OK || len(got) != 0 {
		t.Error("a length beyond the bytes:", e)
	}
}

func open(t *testing.T, f *simfs.FS, path string, want ...string) *wal.Log {
	t.Helper()
	l, got, e := wal.Open(f, path)
	if e != api.OK || told(got) != told(rows(want...)) || l.Count() != len(want) {
		t.Fatalf("Open: %s, %v, not %q", told(got), e, want)
	}
	return l
}

func holds(t *testing.T, f *simfs.FS, path string, l ...string) {
	t.Helper()
	if b, e := f.Read(path); e != api.OK || !bytes.Equal(b, plain(l...)) {
		t.Fatalf("%s: %q, %v, not of %q", path, b, e, l)
	}
}

func disk(capacity int) *simfs.FS {
	f, _ := simfs.New(capacity, capacity)
	return f
}

func ok(t *testing.T, l ...api.Errno) {
	t.Helper()
	for _, e := range l {
		if e != api.OK {
			t.Fatal(e)
		}
	}
}

func TestOpenAndAppend(t *testing.T) { // P302, P303
	f := disk(1 << 22)
	l := open(t, f, "d/j")
	holds(t, f, "d/j")
	if f.Ops() != 4 {
		t.Error("a new journal is made by four operations, not", f.Ops())
	}
	ok(t, l.Append([]byte("a")), l.Append(nil), l.Append([]byte("b")))
	if f.Ops() != 16 {
		t.Error("a record is laid by four operations each:", f.Ops())
	}
	holds(t, f, "d/j", "a", "", "b")
	at := f.Ops()
	l = open(t, f, "d/j", "a", "", "b")
	if f.Ops() != at {
		t.Error("opening what is whole changes the disk")
	}
	f.Crash(1, 2, 3)
	open(t, f, "d/j", "a", "", "b")
	ok(t, l.Append([]byte("c")))
	open(t, f, "d/j", "a", "", "b", "c")
	if got, _ := f.List("d"); len(got) != 1 {
		t.Error("files are left:", got)
	}
}

func TestOpenRefuses(t *testing.T) { // P302
	f := disk(1 << 20)
	for _, p := range []string{"", "/", "a//b", "A", strings.Repeat("a", 97), strings.Repeat("a", 101)} {
		if l, r, e := wal.Open(f, p); l != nil || r != nil || e != api.ErrName {
			t.Errorf("Open(%q): %v", p, e)
		}
	}
	open(t, f, strings.Repeat("a", 96))
	ok(t, f.Write(strings.Repeat("b", 97), plain()))
	if l, _, e := wal.Open(f, strings.Repeat("b", 97)); l != nil || e != api.ErrName {
		t.Error("a journal beside which there is no place:", e)
	}
	for _, bad := range []string{"", "SLVGWAL", "SLVGWAL2", "xSLVGWAL1"} {
		ok(t, f.Write("j", []byte(bad)))
		if l, r, e := wal.Open(f, "j"); l != nil || r != nil || e != api.ErrBad {
			t.Errorf("Open of %q: %v", bad, e)
		}
	}
	f.Stop(1)
	f.Sync("j")
	if _, _, e := wal.Open(f, "j"); e != api.ErrDead {
		t.Error("Open on a stopped disk:", e)
	}
	if _, _, e := wal.Open(f, "/"); e != api.ErrName {
		t.Error("Open of no path on a stopped disk:", e)
	}
	if _, _, e := wal.Open(disk(7), "j"); e != api.ErrLong {
		t.Error("Open without room:", e)
	}
	g, _ := simfs.New(7, 100)
	if _, _, e := wal.Open(g, "j"); e != api.ErrFull {
		t.Error("Open without room:", e)
	}
}

func TestOpenMakesTornOnesAnew(t *testing.T) { // P302
	b := plain("one", "two")
	for n := 8; n < len(b); n++ {
		f := disk(1 << 20)
		ok(t, f.Write("j", b[:n]), f.Sync("j"), f.SyncDir(""))
		want := []string{"one"}
		if n < len(plain("one")) {
			want = nil
		}
		torn := n != len(plain(want...))
		at := f.Ops()
		l := open(t, f, "j", want...)
		holds(t, f, "j", want...)
		if torn != (f.Ops() == at+4) || !torn != (f.Ops() == at) {
			t.Fatal("operations:", f.Ops()-at)
		}
		f.Crash()
		holds(t, f, "j", want...)
		ok(t, l.Append([]byte("x")))
		open(t, f, "j", append(want, "x")...)
	}
}

func TestAppendRefuses(t *testing.T) { // P303
	f := disk(1 << 22)
	l := open(t, f, "j")
	at := f.Ops()
	if e := l.Append(make([]byte, api.MaxRecord+1)); e != api.ErrLong || l.Count() != 0 || f.Ops() != at {
		t.Error("a record that is too long:", e)
	}
	ok(t, l.Append(make([]byte, api.MaxRecord)))
	if e := l.Checkpoint([]byte("a"), make([]byte, api.MaxRecord+1)); e != api.ErrLong || l.Count() != 1 {
		t.Error("a record that is too long:", e)
	}
	if e := l.Checkpoint(make([]byte, api.MaxRecord)); e != api.OK || l.Count() != 1 {
		t.Error("the longest record:", e)
	}
}

func TestAppendWithoutRoom(t *testing.T) { // P303
	for room := 30; room < 90; room++ {
		f := disk(room)
		l := open(t, f, "j")
		e := l.Append([]byte("a"))
		if e == api.OK {
			e = l.Append(bytes.Repeat([]byte("b"), 20))
		}
		if e == api.OK {
			open(t, f, "j", "a", strings.Repeat("b", 20))
			continue
		}
		if e != api.ErrLong && e != api.ErrFull {
			t.Fatal(room, e)
		}
		n := l.Count()
		at := f.Ops()
		e = l.Append(nil)
		if f.Ops() == at+1 && e == api.OK || e == api.OK && f.Ops() != at+8 {
			t.Fatalf("room %d: it was not made anew: %d operations", room, f.Ops()-at)
		}
		if e != api.OK && f.Ops() != at+1 && l.Count() != n {
			t.Fatal(room, e)
		}
		if e == api.OK {
			want := []string{"a", ""}[2-l.Count():]
			open(t, f, "j", want...)
			at = f.Ops()
			if e := l.Append(nil); e == api.OK && f.Ops() != at+4 {
				t.Fatal("it is made anew more than once")
			}
		}
	}
}

func TestAMarkWithoutRoom(t *testing.T) { // P303
	f, _ := simfs.New(8+12+1, 1000)
	l := open(t, f, "j")
	if e := l.Append([]byte("a")); e != api.ErrFull || l.Count() != 0 {
		t.Fatal("no room for the mark:", e)
	}
	if b, _ := f.Read("j"); len(b) != 8+12+1 {
		t.Fatalf("%q", b)
	}
	if e := l.Append(nil); e != api.ErrFull { // no room to make it anew beside what is there
		t.Fatal(e)
	}
	if g, r, e := wal.Open(f, "j"); e != api.ErrFull || g != nil || r != nil {
		t.Fatal("Open without room:", e)
	}
	if e := l.Checkpoint(); e != api.ErrFull {
		t.Fatal(e)
	}
	ok(t, f.Write("j", nil))
	ok(t, l.Append(nil))
	open(t, f, "j", "")
}

func TestCheckpoint(t *testing.T) { // P303
	f := disk(1 << 20)
	l := open(t, f, "d/j")
	ok(t, l.Append([]byte("a")), f.Write("d/j.new", []byte("left")))
	at := f.Ops()
	ok(t, l.Checkpoint([]byte("x"), nil, []byte("z")))
	if l.Count() != 3 || f.Ops() != at+4 {
		t.Error("Count, operations:", l.Count(), f.Ops()-at)
	}
	holds(t, f, "d/j", "x", "", "z")
	ok(t, l.Append([]byte("y")))
	f.Crash()
	open(t, f, "d/j", "x", "", "z", "y")
	ok(t, l.Checkpoint())
	open(t, f, "d/j")
}

// What a refused Checkpoint leaves is as it was.
func TestCheckpointWithoutRoom(t *testing.T) { // P303, P5
	f, _ := simfs.New(60, 1000)
	l := open(t, f, "j")
	ok(t, l.Append([]byte("abc")))
	if e := l.Checkpoint(make([]byte, 40)); e != api.ErrFull || l.Count() != 1 {
		t.Fatal(e)
	}
	at := f.Ops()
	ok(t, l.Append(nil))
	if f.Ops() != at+4 {
		t.Error("it was made anew:", f.Ops()-at)
	}
	open(t, f, "j", "abc", "")
}

// A log that goes on behind a crash that cut it off makes its journal anew.
func TestGoingOnBehindACrash(t *testing.T) { // P303
	for _, stop := range []int{1, 2, 3, 4} {
		for pick := range 60 {
			f := disk(1 << 20)
			l := open(t, f, "j")
			ok(t, l.Append([]byte("a")))
			f.Stop(stop)
			if e := l.Append([]byte("b")); e != api.ErrDead || l.Count() != 1 {
				t.Fatal(e)
			}
			if e := l.Append([]byte("b")); e != api.ErrDead {
				t.Fatal(e)
			}
			f.Crash(pick)
			ok(t, l.Append([]byte("c")))
			open(t, f, "j", "a", "c")
		}
	}
	for stop := 1; stop <= 4; stop++ {
		for pick := range 3 {
			f := disk(1 << 20)
			l := open(t, f, "j")
			ok(t, l.Append([]byte("a")))
			f.Stop(stop)
			if e := l.Checkpoint([]byte("x"), []byte("y")); e != api.ErrDead || l.Count() != 1 {
				t.Fatal(e)
			}
			f.Crash(pick, pick)
			ok(t, l.Append([]byte("c")))
			open(t, f, "j", "a", "c")
		}
	}
}

// TestCrashes cuts every call off at every operation, with all picks.
func TestCrashes(t *testing.T) { // P304
	calls := []struct {
		do     func(l *wal.Log) api.Errno
		behind string
	}{
		{func(l *wal.Log) api.Errno { return l.Append([]byte("cd")) }, told(rows("a", "b", "cd"))},
		{func(l *wal.Log) api.Errno { return l.Checkpoint([]byte("x")) }, told(rows("x"))},
	}
	ahead := told(rows("a", "b"))
	for k, call := range calls {
		for stop := 1; stop <= 5; stop++ {
			for pick := range 200 {
				f := disk(1 << 20)
				l := open(t, f, "d/j")
				ok(t, l.Append([]byte("a")), l.Append([]byte("b")))
				f.Stop(stop)
				e := call.do(l)
				if (e == api.OK) != (stop == 5) {
					t.Fatal(e)
				}
				f.Crash(pick%7, pick/7)
				_, got, e := wal.Open(f, "d/j")
				if g := told(got); e != api.OK || g != call.behind && (g != ahead || stop == 5) {
					t.Fatalf("call %d, stop %d, pick %d: %s, %v", k, stop, pick, g, e)
				}
				f.Crash(pick)
				_, again, e := wal.Open(f, "d/j")
				if e != api.OK || told(again) != told(got) {
					t.Fatalf("opening again tells %s, not %s", told(again), told(got))
				}
			}
		}
	}
}

func TestCrashesOfOpen(t *testing.T) { // P304
	for _, b := range [][]byte{nil, append(plain("a", "b"), "torn"...)} {
		for stop := 1; stop <= 5; stop++ {
			for pick := range 200 {
				f := disk(1 << 20)
				want := told(nil)
				if b != nil {
					ok(t, f.Write("j", b), f.Sync("j"), f.SyncDir(""))
					want = told(rows("a", "b"))
				}
				f.Stop(stop)
				wal.Open(f, "j")
				f.Crash(pick%5, pick/5)
				if _, got, e := wal.Open(f, "j"); e != api.OK || told(got) != want {
					t.Fatalf("stop %d, pick %d: %s, %v", stop, pick, told(got), e)
				}
			}
		}
	}
}

func TestNothingIsKept(t *testing.T) { // P2
	f := disk(1 << 20)
	l := open(t, f, "j")
	b := []byte("abc")
	ok(t, l.Checkpoint(b), l.Append(b))
	clear(b)
	f.Stop(1)
	l.Append(nil)
	f.Crash()
	ok(t, l.Append(nil))
	_, got, _ := wal.Open(f, "j")
	if told(got) != told(rows("abc", "abc", "")) {
		t.Error(told(got))
	}
	src := plain("abc", "def")
	got, _, _ = wal.Parse(src)
	clear(src)
	got[0] = append(got[0], "!!!!!!!!!!!!!!!!!!!!!!!!!!!!!!!!!!!!!!!!!"...)
	if string(got[1]) != "def" {
		t.Error("Parse's answer shares memory")
	}
}
