package codec_test

import (
	"bytes"
	"crypto/sha256"
	"math/rand"
	"reflect"
	"slices"
	"strings"
	"testing"

	"selvage/api"
	"selvage/codec"
)

func id(k int) api.Id { return api.Id{0: byte(k), 31: byte(k >> 8), 7: 1} }

func row(l ...any) []byte {
	var b []byte
	for _, x := range l {
		switch x := x.(type) {
		case int:
			b = append(b, byte(x))
		case string:
			b = append(b, x...)
		case api.Id:
			b = append(b, x[:]...)
		case []byte:
			b = append(b, x...)
		}
	}
	return b
}

func entry(name string, kind int) api.Entry { return api.Entry{Name: name, Kind: kind, Id: id(1)} }

func many(n int) []api.Entry {
	var l []api.Entry
	for k := range n {
		l = append(l, entry(string([]byte{'a', byte('a' + k/100), byte('a' + k/10%10), byte('a' + k%10)}), 1))
	}
	return l
}

func TestName(t *testing.T) {
	for _, s := range []string{"a", "...", ".a", "a b", "\n", "\xff", strings.Repeat("x", 40), "é", "~"} {
		if !codec.Name(s) {
			t.Errorf("Name(%q)", s)
		}
	}
	for _, s := range []string{"", ".", "..", "a/b", "/", "a\x00", "\x00", strings.Repeat("x", 41)} {
		if codec.Name(s) {
			t.Errorf("Name(%q), though it is none", s)
		}
	}
}

func TestEncodeTree(t *testing.T) { // P401
	b, e := codec.EncodeTree([]api.Entry{entry("a", api.KFile)})
	if e != api.OK || !bytes.Equal(b, row(1, 1, "a", id(1))) {
		t.Errorf("%v, %v", b, e)
	}
	b, e = codec.EncodeTree([]api.Entry{entry("A", api.KLink), entry("ab", api.KTree)})
	if e != api.OK || !bytes.Equal(b, row(3, 1, "A", id(1), 4, 2, "ab", id(1))) {
		t.Errorf("%v, %v", b, e)
	}
	if b, e = codec.EncodeTree(nil); len(b) != 0 || e != api.OK {
		t.Error("the empty tree:", e)
	}
}

func TestTreeErrors(t *testing.T) { // P401
	none := api.Entry{Name: "z", Kind: 1}
	for k, x := range []struct {
		l    []api.Entry
		want api.Errno
	}{
		{many(512), api.OK},
		{many(513), api.ErrMany},
		{append([]api.Entry{entry("", 9)}, many(512)...), api.ErrMany},
		{[]api.Entry{entry("a", 0)}, api.ErrKind},
		{[]api.Entry{entry("a", 5)}, api.ErrKind},
		{[]api.Entry{entry("a", -1)}, api.ErrKind},
		{[]api.Entry{entry("a", 257)}, api.ErrKind},
		{[]api.Entry{entry("", 0)}, api.ErrKind},
		{[]api.Entry{{Name: "a/b", Kind: 1}}, api.ErrName},
		{[]api.Entry{entry("b", 1), none}, api.ErrArg},
		{[]api.Entry{entry("zz", 1), none}, api.ErrArg},
		{[]api.Entry{entry("b", 1), entry("b", 2)}, api.ErrOrder},
		{[]api.Entry{entry("b", 1), entry("a", 1), entry("c", 0)}, api.ErrOrder},
		{[]api.Entry{entry("b", 1), entry("c", 0), entry("a", 1)}, api.ErrKind},
	} {
		b, e := codec.EncodeTree(x.l)
		if e != x.want || (e != api.OK && b != nil) {
			t.Errorf("%d: %v, not %v", k, e, x.want)
		}
		if e == api.OK {
			got, e := codec.ParseTree(b)
			if e != api.OK || !slices.Equal(got, x.l) {
				t.Errorf("%d: parsed: %v", k, e)
			}
		}
	}
}

func TestParseTree(t *testing.T) { // P401
	good := row(1, 1, "a", id(1))
	full, _ := codec.EncodeTree(many(512))
	for k, x := range []struct {
		b    []byte
		want api.Errno
	}{
		{nil, api.OK},
		{good, api.OK},
		{row(0, 1, "a", id(1)), api.ErrKind},
		{row(5, 1, "a", id(1)), api.ErrKind},
		{row(5, 1, "a", id(1))[:34], api.ErrCut},
		{row(1, 0, id(1)), api.ErrName},
		{row(1, 2, "..", id(1)), api.ErrName},
		{row(1, 41, strings.Repeat("x", 41), id(1)), api.ErrName},
		{row(1, 1, "a", api.Id{}), api.ErrArg},
		{row(good, good), api.ErrOrder},
		{row(good, 1, 1, "A", id(2)), api.ErrOrder},
		{row(good, 0, 1, "A", id(2)), api.ErrKind},
		{row(full, 1, 1, "z", id(1)), api.ErrMany},
		{row(full, 9, 1, "z", id(1)), api.ErrMany},
		{row(full, 9, 1, "z", id(1))[:len(full)+20], api.ErrCut},
		{row(1, 200, "abc"), api.ErrCut},
	} {
		l, e := codec.ParseTree(x.b)
		if e != x.want || e != api.OK && l != nil {
			t.Errorf("%d: %v, not %v", k, e, x.want)
		}
	}
	for n := 1; n < len(good); n++ {
		if _, e := codec.ParseTree(good[:n]); e != api.ErrCut {
			t.Errorf("%d bytes: %v", n, e)
		}
	}
}

func commit() api.Commit {
	return api.Commit{Tree: id(1), Parents: []api.Id{id(2), id(3)}, Author: "me", Time: -2, Message: "why\n"}
}

func TestEncodeCommit(t *testing.T) { // P402
	b, e := codec.EncodeCommit(commit())
	want := row(id(1), 2, id(2), id(3), 0, 2, "me", "\xff\xff\xff\xff\xff\xff\xff\xfe", 0, 4, "why\n")
	if e != api.OK || !bytes.Equal(b, want) {
		t.Errorf("%v, %v", b, e)
	}
	got, e := codec.ParseCommit(want)
	if e != api.OK || !reflect.DeepEqual(got, commit()) {
		t.Errorf("%v, %v", got, e)
	}
	for n := range len(want) {
		if got, e := codec.ParseCommit(want[:n]); e != api.ErrCut || !codec.SameCommit(got, api.Commit{}) {
			t.Errorf("%d bytes: %v", n, e)
		}
	}
	if got, e := codec.ParseCommit(append(want, 0)); e != api.ErrMore || !codec.SameCommit(got, api.Commit{}) {
		t.Error("a byte more:", e)
	}
}

func TestCommitErrors(t *testing.T) { // P402
	long := strings.Repeat("x", 1001)
	parents := func(l ...int) []api.Id {
		var out []api.Id
		for _, k := range l {
			if k == 0 {
				out = append(out, api.Id{})
				continue
			}
			out = append(out, id(k))
		}
		return out
	}
	for k, x := range []struct {
		change func(c *api.Commit)
		want   api.Errno
	}{
		{func(c *api.Commit) {}, api.OK},
		{func(c *api.Commit) { c.Parents = nil }, api.OK},
		{func(c *api.Commit) { c.Parents = parents(1, 2, 3, 4, 5, 6, 7, 8) }, api.OK},
		{func(c *api.Commit) { c.Author, c.Message = long[1:], long[1:] }, api.OK},
		{func(c *api.Commit) { c.Time = -1 << 63 }, api.OK},
		{func(c *api.Commit) { c.Tree = api.Id{}; c.Parents = parents(1, 2, 3, 4, 5, 6, 7, 8, 9) }, api.ErrArg},
		{func(c *api.Commit) { c.Parents = parents(0, 0, 3, 4, 5, 6, 7, 8, 9) }, api.ErrMany},
		{func(c *api.Commit) { c.Parents = parents(1, 0); c.Author = long }, api.ErrArg},
		{func(c *api.Commit) { c.Parents = parents(1, 2, 1, 0) }, api.ErrOrder},
		{func(c *api.Commit) { c.Parents = parents(1, 0, 1) }, api.ErrArg},
		{func(c *api.Commit) { c.Author = long }, api.ErrLong},
		{func(c *api.Commit) { c.Message = long }, api.ErrLong},
	} {
		c := commit()
		x.change(&c)
		b, e := codec.EncodeCommit(c)
		if e != x.want || e != api.OK && b != nil {
			t.Errorf("%d: %v, not %v", k, e, x.want)
		}
		if e == api.OK {
			got, e := codec.ParseCommit(b)
			if e != api.OK || !codec.SameCommit(got, c) {
				t.Errorf("%d: parsed: %v", k, e)
			}
		}
	}
}

func TestParseCommitInTheOrderOfBytes(t *testing.T) { // P402
	long := strings.Repeat("x", 1001)
	time := "12345678"
	for k, x := range []struct {
		b    []byte
		want api.Errno
	}{
		{row(api.Id{}), api.ErrArg},
		{row(id(1), 9), api.ErrMany},
		{row(id(1), 2, api.Id{}), api.ErrArg},
		{row(id(1), 3, id(2), id(2)), api.ErrOrder},
		{row(id(1), 1, id(2), 3, 233), api.ErrLong},
		{row(id(1), 1, id(2), 3, 232, long[1:]), api.ErrCut},
		{row(id(1), 0, 0, 0, time, 3, 233, long), api.ErrLong},
		{row(id(1), 0, 0, 0, time, 3, 232, long), api.ErrMore},
		{row(id(1), 0, 0, 0, time, 0, 0), api.OK},
	} {
		c, e := codec.ParseCommit(x.b)
		if e != x.want || e != api.OK && !codec.SameCommit(c, api.Commit{}) {
			t.Errorf("%d: %v, not %v", k, e, x.want)
		}
	}
}

func TestObjects(t *testing.T) { // P403
	tree, _ := codec.EncodeTree(many(2))
	com, _ := codec.EncodeCommit(commit())
	for k, x := range []struct {
		o      api.Obj
		letter string
		want   api.Errno
	}{
		{api.Obj{Kind: api.OBlob, Body: []byte("ab")}, "b", api.OK},
		{api.Obj{Kind: api.OBlob}, "b", api.OK},
		{api.Obj{Kind: api.OBlob, Body: make([]byte, 65536)}, "b", api.OK},
		{api.Obj{Kind: api.OTree}, "t", api.OK},
		{api.Obj{Kind: api.OTree, Body: tree}, "t", api.OK},
		{api.Obj{Kind: api.OCommit, Body: com}, "c", api.OK},
		{api.Obj{Kind: api.OBlob, Body: make([]byte, 65537)}, "b", api.ErrLong},
		{api.Obj{Kind: api.OTree, Body: tree[1:]}, "t", api.ErrName},
		{api.Obj{Kind: api.OCommit}, "c", api.ErrCut},
		{api.Obj{Kind: api.OCommit, Body: append(com, 1)}, "c", api.ErrMore},
		{api.Obj{Kind: 0, Body: make([]byte, 65537)}, "x", api.ErrKind},
		{api.Obj{Kind: 4}, "a", api.ErrKind},
		{api.Obj{Kind: -1}, "", api.ErrKind},
	} {
		b, e := codec.EncodeObj(x.o)
		i, e2 := codec.Id(x.o)
		if e2 != e || k != 7 && e != x.want || e != api.OK && (b != nil || i != api.Id{}) {
			t.Errorf("%d: %v, %v, not %v", k, e, e2, x.want)
		}
		n := len(x.o.Body)
		raw := row(x.letter, n>>24, n>>16, n>>8, n, x.o.Body)
		got, e3 := codec.ParseObj(raw)
		if e3 != e && x.letter != "" {
			t.Errorf("%d: ParseObj: %v, not %v", k, e3, e)
		}
		if e == api.OK {
			if !bytes.Equal(b, raw) || i != sha256.Sum256(raw) || got.Kind != x.o.Kind || !bytes.Equal(got.Body, x.o.Body) {
				t.Errorf("%d: %v, %v", k, b, got)
			}
		} else if got.Kind != 0 || got.Body != nil {
			t.Errorf("%d: an object beside an error", k)
		}
	}
}

func TestParseObjErrors(t *testing.T) { // P403
	for k, x := range []struct {
		b    []byte
		want api.Errno
	}{
		{nil, api.ErrCut},
		{row("x"), api.ErrCut},
		{row("x", 0, 0, 0), api.ErrCut},
		{row("x", 0, 0, 0, 1), api.ErrKind},
		{row("B", 0, 0, 0, 0), api.ErrKind},
		{row("b", 0, 0, 0, 1), api.ErrCut},
		{row("b", 255, 255, 255, 255, "a"), api.ErrCut},
		{row("b", 0, 0, 0, 1, "ab"), api.ErrMore},
		{row("b", 0, 1, 0, 1, make([]byte, 65537)), api.ErrLong},
		{row("b", 0, 1, 0, 1, make([]byte, 65538)), api.ErrMore},
		{row("t", 0, 0, 0, 1, 1), api.ErrCut},
		{row("t", 0, 0, 0, 0), api.OK},
		{row("c", 0, 0, 0, 0), api.ErrCut},
	} {
		if o, e := codec.ParseObj(x.b); e != x.want || e != api.OK && (o.Kind != 0 || o.Body != nil) {
			t.Errorf("%d: %v, not %v", k, e, x.want)
		}
	}
}

// TestOneForm parses bytes that are nearly objects: what can be parsed is encoded as the same bytes.
func TestOneForm(t *testing.T) { // P406
	r := rand.New(rand.NewSource(6))
	tree, _ := codec.EncodeTree(many(3))
	com, _ := codec.EncodeCommit(commit())
	parsed := 0
	for range 20000 {
		o := []api.Obj{{Kind: 1, Body: []byte("abc")}, {Kind: 2, Body: tree}, {Kind: 3, Body: com}}[r.Intn(3)]
		b, _ := codec.EncodeObj(o)
		b[r.Intn(len(b))] ^= byte(1 << r.Intn(8))
		if got, e := codec.ParseObj(b); e == api.OK {
			parsed++
			if again, e := codec.EncodeObj(got); e != api.OK || !bytes.Equal(again, b) {
				t.Fatalf("%q is encoded as %q", b, again)
			}
		}
		tx, _ := codec.EncodeTx(full())
		tx[r.Intn(len(tx))] ^= byte(1 << r.Intn(8))
		if got, e := codec.ParseTx(tx); e == api.OK {
			parsed++
			if again, e := codec.EncodeTx(got); e != api.OK || !bytes.Equal(again, tx) {
				t.Fatalf("%q is encoded as %q", tx, again)
			}
		}
	}
	if parsed < 1000 {
		t.Error("few could be parsed:", parsed)
	}
}

func full() api.Tx {
	return api.Tx{
		HasHead: true, Head: "main",
		Moves:  []api.Move{{Name: "main", Old: id(1), New: id(2), Why: "commit"}, {Name: "b", New: id(3)}},
		HasSeq: true,
		Seq: api.Seq{Kind: 2, Branch: "main", Orig: id(4), Cur: id(5), Todo: []api.Todo{{Do: 1, Id: id(6)}, {Do: 255, Id: id(7)}},
			Done: 0x102, Made: 0x304, Stopped: true},
		Mem: []api.Memory{{Key: id(8), Data: []byte("data")}, {Key: id(9)}},
	}
}

func TestEncodeTx(t *testing.T) { // P404
	want := row(3, 4, "main",
		0, 2, 4, "main", id(1), id(2), 0, 6, "commit", 1, "b", api.Id{}, id(3), 0, 0,
		2, 4, "main", id(4), id(5), 0, 2, 1, id(6), 255, id(7), 1, 2, 3, 4, 1,
		0, 2, id(8), 0, 0, 0, 4, "data", id(9), 0, 0, 0, 0)
	b, e := codec.EncodeTx(full())
	if e != api.OK || !bytes.Equal(b, want) {
		t.Errorf("%v, %v", b, e)
	}
	for _, x := range []struct {
		t    api.Tx
		want []byte
	}{
		{api.Tx{}, row(0, 0, 0, 0, 0)},
		{api.Tx{Head: "x", Seq: full().Seq}, row(0, 0, 0, 0, 0)},
		{api.Tx{HasHead: true}, row(1, 0, 0, 0, 0, 0)},
		{api.Tx{HasSeq: true}, row(2, 0, 0, 0, 0, 0)},
		{api.Tx{HasSeq: true, Seq: api.Seq{Done: -1, Made: 99999, Branch: strings.Repeat("x", 300)}}, row(2, 0, 0, 0, 0, 0)},
		{api.Tx{HasSeq: true, Seq: api.Seq{Kind: 255}}, row(2, 0, 0, 255, 0, api.Id{}, api.Id{}, 0, 0, 0, 0, 0, 0, 0, 0, 0)},
	} {
		b, e := codec.EncodeTx(x.t)
		if e != api.OK || !bytes.Equal(b, x.want) {
			t.Errorf("%v: %v, %v", x.t, b, e)
		}
		got, e := codec.ParseTx(b)
		if e != api.OK || !codec.SameTx(got, x.t) {
			t.Errorf("%v: parsed: %v, %v", x.t, got, e)
		}
	}
	got, e := codec.ParseTx(want)
	got.Mem[1].Data = nil
	if e != api.OK || !reflect.DeepEqual(got, full()) {
		t.Errorf("%v, %v", got, e)
	}
	for n := range len(want) {
		if got, e := codec.ParseTx(want[:n]); e != api.ErrCut || !reflect.DeepEqual(got, api.Tx{}) {
			t.Errorf("%d bytes: %v", n, e)
		}
	}
	if got, e := codec.ParseTx(append(want, 0)); e != api.ErrMore || !reflect.DeepEqual(got, api.Tx{}) {
		t.Error("a byte more:", e)
	}
}

func TestTxErrors(t *testing.T) { // P404
	x255, x65535 := strings.Repeat("x", 255), strings.Repeat("x", 65535)
	for k, x := range []struct {
		change func(t *api.Tx)
		want   api.Errno
	}{
		{func(t *api.Tx) { t.Head, t.Moves[0].Name, t.Seq.Branch = x255, x255, x255 }, api.OK},
		{func(t *api.Tx) { t.Moves[1].Why = x65535 }, api.OK},
		{func(t *api.Tx) { t.Moves = make([]api.Move, 65535) }, api.OK},
		{func(t *api.Tx) { t.Mem = make([]api.Memory, 65535) }, api.OK},
		{func(t *api.Tx) { t.Seq.Todo = make([]api.Todo, 65535) }, api.OK},
		{func(t *api.Tx) { t.Seq.Done, t.Seq.Made = 65535, 65535 }, api.OK},
		{func(t *api.Tx) { t.Moves = make([]api.Move, 65536); t.Head = x255 + "x" }, api.ErrMany},
		{func(t *api.Tx) { t.Mem = make([]api.Memory, 65536); t.Seq.Done = -1 }, api.ErrMany},
		{func(t *api.Tx) { t.Seq.Todo = make([]api.Todo, 65536) }, api.ErrMany},
		{func(t *api.Tx) { t.Seq.Todo = make([]api.Todo, 65536); t.Seq.Kind = 0 }, api.OK},
		{func(t *api.Tx) { t.Seq.Todo = make([]api.Todo, 65536); t.HasSeq = false }, api.OK},
		{func(t *api.Tx) { t.Head = x255 + "x"; t.Seq.Done = -1 }, api.ErrLong},
		{func(t *api.Tx) { t.Head = x255 + "x"; t.HasHead = false }, api.OK},
		{func(t *api.Tx) { t.Moves[1].Name = x255 + "x" }, api.ErrLong},
		{func(t *api.Tx) { t.Moves[1].Why = x65535 + "x" }, api.ErrLong},
		{func(t *api.Tx) { t.Seq.Branch = x255 + "x" }, api.ErrLong},
		{func(t *api.Tx) { t.Seq.Branch = x255 + "x"; t.HasSeq = false }, api.OK},
		{func(t *api.Tx) { t.Seq.Kind = -1 }, api.ErrArg},
		{func(t *api.Tx) { t.Seq.Kind = 256 }, api.ErrArg},
		{func(t *api.Tx) { t.Seq.Done = -1 }, api.ErrArg},
		{func(t *api.Tx) { t.Seq.Done = 65536 }, api.ErrArg},
		{func(t *api.Tx) { t.Seq.Made = -1 }, api.ErrArg},
		{func(t *api.Tx) { t.Seq.Made = 65536 }, api.ErrArg},
		{func(t *api.Tx) { t.Seq.Todo[1].Do = 256 }, api.ErrArg},
		{func(t *api.Tx) { t.Seq.Todo[0].Do = -1 }, api.ErrArg},
	} {
		tx := full()
		x.change(&tx)
		b, e := codec.EncodeTx(tx)
		if e != x.want || e != api.OK && b != nil {
			t.Errorf("%d: %v, not %v", k, e, x.want)
		}
		if e == api.OK {
			if got, e := codec.ParseTx(b); e != api.OK || !codec.SameTx(got, tx) {
				t.Errorf("%d: parsed: %v", k, e)
			}
		}
	}
}

func TestParseTxErrors(t *testing.T) { // P404
	for k, x := range []struct {
		b    []byte
		want api.Errno
	}{
		{nil, api.ErrCut},
		{row(4), api.ErrBad},
		{row(255, 0, 0, 0, 0), api.ErrBad},
		{row(0, 255, 255), api.ErrCut},
		{row(2, 0, 0, 1, 0, api.Id{}, api.Id{}, 0, 0, 0, 0, 0, 0, 2), api.ErrBad},
		{row(2, 0, 0, 1, 0, api.Id{}, api.Id{}, 0, 0, 0, 0, 0, 0, 1, 0, 0), api.OK},
		{row(0, 0, 0, 0, 1, id(1), 255, 255, 255, 255), api.ErrCut},
		{row(0, 0, 0, 0, 0, 0), api.ErrMore},
	} {
		if _, e := codec.ParseTx(x.b); e != x.want {
			t.Errorf("%d: %v, not %v", k, e, x.want)
		}
	}
}

func TestSame(t *testing.T) { // P405
	changes := []func(t *api.Tx){
		func(t *api.Tx) { t.HasHead = false },
		func(t *api.Tx) { t.Head = "x" },
		func(t *api.Tx) { t.Moves[0].Name = "x" },
		func(t *api.Tx) { t.Moves[0].Old = id(77) },
		func(t *api.Tx) { t.Moves[1].New = id(77) },
		func(t *api.Tx) { t.Moves[1].Why = "x" },
		func(t *api.Tx) { t.Moves = t.Moves[:1] },
		func(t *api.Tx) { t.HasSeq = false },
		func(t *api.Tx) { t.Seq.Kind = 1 },
		func(t *api.Tx) { t.Seq.Branch = "x" },
		func(t *api.Tx) { t.Seq.Orig = id(77) },
		func(t *api.Tx) { t.Seq.Cur = id(77) },
		func(t *api.Tx) { t.Seq.Todo[1].Do = 3 },
		func(t *api.Tx) { t.Seq.Todo[0].Id = id(77) },
		func(t *api.Tx) { t.Seq.Todo = t.Seq.Todo[:1] },
		func(t *api.Tx) { t.Seq.Done = 1 },
		func(t *api.Tx) { t.Seq.Made = 1 },
		func(t *api.Tx) { t.Seq.Stopped = false },
		func(t *api.Tx) { t.Mem[0].Key = id(77) },
		func(t *api.Tx) { t.Mem[0].Data = []byte("date") },
		func(t *api.Tx) { t.Mem = nil },
	}
	for k, change := range changes {
		tx := full()
		change(&tx)
		if codec.SameTx(tx, full()) || codec.SameTx(full(), tx) || !codec.SameTx(tx, tx) {
			t.Errorf("SameTx: change %d", k)
		}
	}
	for k, l := range [][2]api.Tx{
		{{}, {Head: "x", Seq: full().Seq}},
		{{HasSeq: true}, {HasSeq: true, Seq: api.Seq{Branch: "x", Todo: make([]api.Todo, 2), Done: 3}}},
		{{}, {Moves: []api.Move{}, Mem: []api.Memory{}}},
	} {
		if !codec.SameTx(l[0], l[1]) || !codec.SameTx(l[1], l[0]) {
			t.Errorf("SameTx: pair %d", k)
		}
	}
	for k, change := range []func(c *api.Commit){
		func(c *api.Commit) { c.Tree = id(77) },
		func(c *api.Commit) { c.Parents[1] = id(77) },
		func(c *api.Commit) { c.Parents = c.Parents[:1] },
		func(c *api.Commit) { c.Author = "x" },
		func(c *api.Commit) { c.Time = 2 },
		func(c *api.Commit) { c.Message = "x" },
	} {
		c := commit()
		change(&c)
		if codec.SameCommit(c, commit()) || codec.SameCommit(commit(), c) || !codec.SameCommit(c, c) {
			t.Errorf("SameCommit: change %d", k)
		}
	}
	if !codec.SameCommit(api.Commit{}, api.Commit{Parents: []api.Id{}}) {
		t.Error("no list and an empty one")
	}
}

func TestNothingIsShared(t *testing.T) { // P2
	b, _ := codec.EncodeObj(api.Obj{Kind: 1, Body: []byte("abc")})
	o, _ := codec.ParseObj(b)
	tx, _ := codec.EncodeTx(full())
	got, _ := codec.ParseTx(tx)
	clear(b)
	clear(tx)
	if string(o.Body) != "abc" || !codec.SameTx(got, full()) {
		t.Error("an answer shares memory")
	}
	body := append(make([]byte, 0, 50), "abc"...)
	codec.EncodeObj(api.Obj{Kind: 1, Body: body})
	if !bytes.Equal(body[:50], append([]byte("abc"), make([]byte, 47)...)) {
		t.Error("spare room was changed")
	}
}
