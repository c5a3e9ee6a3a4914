package rerere_test

import (
	"bytes"
	"crypto/sha256"
	"encoding/binary"
	"fmt"
	"math/rand"
	"strings"
	"testing"

	"selvage/api"
	"selvage/rerere"
)

func marked(s string) []byte {
	return []byte(strings.NewReplacer("<", "<<<<<<<\n", "|", "|||||||\n", "=", "=======\n", ">", ">>>>>>>\n",
		"a", "a\n", "b", "b\n", "c", "c\n", "d", "d\n").Replace(s))
}

// sumOf is the sum of bytes (numbers) and texts, each of these with its length ahead.
func sumOf(l ...any) api.Id {
	var b []byte
	for _, x := range l {
		switch x := x.(type) {
		case int:
			b = append(b, byte(x))
		case string:
			b = append(binary.BigEndian.AppendUint32(b, uint32(len(x))), x...)
		}
	}
	return sha256.Sum256(b)
}

func TestKey(t *testing.T) { // P1901
	for s, want := range map[string]api.Id{
		"<b|a=c>":        sumOf(1, "a\n", "b\n", "c\n"),
		"<c|a=b>":        sumOf(1, "a\n", "b\n", "c\n"),
		"<bb|a=b>":       sumOf(1, "a\n", "b\n", "b\nb\n"),
		"<|=>":           sumOf(1, "", "", ""),
		"<c|=>":          sumOf(1, "", "", "c\n"),
		"d<b|a=c>da":     sumOf(0, "d\n", 1, "a\n", "b\n", "c\n", 0, "d\na\n"),
		"<b|a=c><a|c=b>": sumOf(1, "a\n", "b\n", "c\n", 1, "c\n", "a\n", "b\n"),
		"<b|a=c>x":       sumOf(1, "a\n", "b\n", "c\n", 0, "x"),
	} {
		if got, e := rerere.Key(marked(s)); e != api.OK || got != want {
			t.Errorf("Key(%s): %v, %v", s, got, e)
		}
	}
	for _, n := range []int{300, 70000} {
		long := strings.Repeat("l", n) + "\n"
		if got, e := rerere.Key(append([]byte(long), marked("<b|a=c>")...)); e != api.OK || got != sumOf(0, long, 1, "a\n", "b\n", "c\n") {
			t.Errorf("a line of %d bytes: %v", n, e)
		}
	}
	for s, want := range map[string]api.Errno{
		"": api.ErrNone, "abc": api.ErrNone, "<b|a=c": api.ErrMarks, "<b=a|c>": api.ErrMarks, "<b|a=c>>": api.ErrMarks, "a>": api.ErrMarks,
	} {
		if got, e := rerere.Key(marked(s)); e != want || got != (api.Id{}) {
			t.Errorf("Key(%s): %v", s, e)
		}
	}
}

func TestSidesChangedAbout(t *testing.T) { // P1903
	r := rand.New(rand.NewSource(23))
	some := func() string {
		s := ""
		for range r.Intn(4) {
			s += string("abc"[r.Intn(3)])
		}
		return s
	}
	keys := map[api.Id]string{}
	for range 1000 {
		o, b, th := some(), some(), some()
		i, e := rerere.Key(marked("<" + o + "|" + b + "=" + th + ">"))
		j, _ := rerere.Key(marked("<" + th + "|" + b + "=" + o + ">"))
		if e != api.OK || i != j {
			t.Fatal(o, b, th, e)
		}
		told := b + "," + min(o, th) + "," + max(o, th)
		if was, is := keys[i]; is && was != told {
			t.Fatalf("%s and %s have one key", was, told)
		}
		keys[i] = told
	}
}

func id(k int) api.Id { return api.Id{0: byte(k), 31: 1} }

func mem(l ...any) []api.Memory {
	var out []api.Memory
	for k := 0; k < len(l); k += 2 {
		m := api.Memory{Data: []byte(l[k+1].(string))}
		if n := l[k].(int); n != 0 {
			m.Key = id(n)
		}
		out = append(out, m)
	}
	return out
}

func TestAddAndFind(t *testing.T) { // P1902, P1903
	for k, x := range []struct{ l, m, want []api.Memory }{
		{nil, nil, nil},
		{nil, mem(3, "x", 1, "y"), mem(1, "y", 3, "x")},
		{mem(2, "b"), mem(3, "c", 1, "a"), mem(1, "a", 2, "b", 3, "c")},
		{mem(1, "a", 2, "b"), mem(2, "x"), mem(1, "a", 2, "x")},
		{mem(1, "a"), mem(2, "x", 2, "y", 1, "z", 1, ""), mem(1, "", 2, "y")},
		{mem(1, "a"), mem(0, "x"), mem(1, "a")},
		{nil, mem(0, "x", 5, "y"), mem(5, "y")},
	} {
		got := rerere.Add(x.l, x.m...)
		if fmt.Sprint(got) != fmt.Sprint(x.want) {
			t.Errorf("%d: %v, not %v", k, got, x.want)
		}
		for _, m := range x.want {
			if b, is := rerere.Find(got, m.Key); !is || !bytes.Equal(b, m.Data) {
				t.Errorf("%d: Find: %q, %v", k, b, is)
			}
		}
		for _, i := range []api.Id{{}, id(9), {0: 1}} {
			if b, is := rerere.Find(got, i); is || b != nil {
				t.Errorf("%d: Find of what is not there: %q", k, b)
			}
		}
	}
}

func TestNothingIsShared(t *testing.T) { // P2
	l, m := mem(1, "a", 2, "b"), mem(2, "c", 3, "d")
	got := rerere.Add(l, m...)
	b, _ := rerere.Find(got, id(1))
	clear(b)
	if string(got[0].Data) != "a" {
		t.Error("Find's answer shares memory")
	}
	for k := range got {
		clear(got[k].Data)
		got[k].Key = api.Id{}
	}
	if fmt.Sprint(l) != fmt.Sprint(mem(1, "a", 2, "b")) || fmt.Sprint(m) != fmt.Sprint(mem(2, "c", 3, "d")) {
		t.Error("Add's answer shares memory")
	}
}
