package lines_test

import (
	"bytes"
	"fmt"
	"math/rand"
	"slices"
	"strings"
	"testing"

	"selvage/api"
	"selvage/lines"
)

func TestSplitAndJoin(t *testing.T) { // P1201, P1204
	for s, want := range map[string][]string{
		"": nil, "a": {"a"}, "a\n": {"a\n"}, "a\nb": {"a\n", "b"}, "\n": {"\n"}, "\n\n": {"\n", "\n"}, "a\n\nb\n": {"a\n", "\n", "b\n"},
		"a\r\nb\x00\n": {"a\r\n", "b\x00\n"},
	} {
		got := lines.Split([]byte(s))
		if !slices.Equal(got, want) {
			t.Errorf("Split(%q): %q", s, got)
		}
		if string(lines.Join(got...)) != s {
			t.Errorf("Join of Split of %q", s)
		}
	}
	if got := lines.Join("a", "", "b\n", "c"); string(got) != "ab\nc" {
		t.Errorf("Join: %q", got)
	}
	if lines.Join() != nil && len(lines.Join()) != 0 {
		t.Error("Join of nothing")
	}
}

const keep, del, ins = api.Keep, api.Delete, api.Insert

func told(l []api.Edit) string {
	s := ""
	for _, x := range l {
		s += fmt.Sprint([]string{"K", "D", "I"}[x.Op], x.N, " ")
	}
	return strings.TrimSpace(s)
}

func TestDiff(t *testing.T) { // P1202
	for _, x := range []struct{ a, b, want string }{
		{"abc", "bcd", "D1 K2 I1"},
		{"ab", "ba", "D1 K1 I1"},
		{"", "", ""},
		{"abc", "abc", "K3"},
		{"", "ab", "I2"},
		{"ab", "", "D2"},
		{"a", "b", "D1 I1"},
		{"xx", "x", "K1 D1"},
		{"x", "xx", "K1 I1"},
		{"ab", "xaxb", "I1 K1 I1 K1"},
		{"abcab", "cb", "D2 K1 D1 K1"},
		{"abxcd", "abycd", "K2 D1 I1 K2"},
		{"aXbXc", "aYbYc", "K1 D1 I1 K1 D1 I1 K1"},
		{"abab", "baba", "D1 K3 I1"},
	} {
		got, e := lines.Diff(strings.Split(x.a, "")[:len(x.a)], strings.Split(x.b, "")[:len(x.b)])
		if e != api.OK || told(got) != x.want {
			t.Errorf("Diff(%s, %s): %s, %v", x.a, x.b, told(got), e)
		}
	}
}

// best tells by trying all the steps of the first of the scripts that keep most.
func best(a, b string) (int, string) {
	kept, steps := -1, ""
	try := func(k int, s string) {
		if k > kept {
			kept, steps = k, s
		}
	}
	if a == "" && b == "" {
		return 0, ""
	}
	if a != "" && b != "" && a[0] == b[0] {
		k, s := best(a[1:], b[1:])
		try(k+1, "K"+s)
	}
	if a != "" {
		k, s := best(a[1:], b)
		try(k, "D"+s)
	}
	if b != "" {
		k, s := best(a, b[1:])
		try(k, "I"+s)
	}
	return kept, steps
}

func TestDiffAgainstAllScripts(t *testing.T) { // P1202, P1204
	r := rand.New(rand.NewSource(13))
	for n := range 4000 {
		row := func(most int) string {
			b := make([]byte, r.Intn(most))
			for k := range b {
				b[k] = "abc"[r.Intn(2+n%2)]
			}
			return string(b)
		}
		a, b := row(7), row(7)
		if n%4 > 1 { // with ends that they have in common
			begin, end := row(3), row(4)
			a, b = begin+row(4)+end, begin+row(4)+end
		}
		al, bl := strings.Split(a, "")[:len(a)], strings.Split(b, "")[:len(b)]
		got, e := lines.Diff(al, bl)
		steps := ""
		var added []string
		j := 0
		for k, x := range got {
			if x.N < 1 || k > 0 && got[k-1].Op == x.Op {
				t.Fatalf("%q, %q: %v", a, b, got)
			}
			steps += strings.Repeat("KDI"[x.Op:x.Op+1], x.N)
			if x.Op == ins {
				added = append(added, bl[j:j+x.N]...)
			}
			if x.Op != del {
				j += x.N
			}
		}
		if _, want := best(a, b); e != api.OK || steps != want {
			t.Fatalf("%q, %q: %s, not %s", a, b, steps, want)
		}
		if back, e := lines.Apply(al, got, added); e != api.OK || !slices.Equal(back, bl) {
			t.Fatalf("%q, %q: Apply: %q, %v", a, b, back, e)
		}
	}
}

func TestMaxLines(t *testing.T) { // P1202
	r := rand.New(rand.NewSource(14))
	a, b := make([]string, 4001), make([]string, 4001)
	for k := range a {
		a[k], b[k] = fmt.Sprint(r.Intn(50)), fmt.Sprint(r.Intn(50))
	}
	if l, e := lines.Diff(a, nil); e != api.ErrMany || l != nil {
		t.Error(e)
	}
	if l, e := lines.Diff(nil, b); e != api.ErrMany || l != nil {
		t.Error(e)
	}
	a, b = a[1:], b[1:]
	e, errno := lines.Diff(a, b)
	if errno != api.OK {
		t.Fatal(errno)
	}
	var added []string
	j := 0
	for _, x := range e {
		if x.Op == ins {
			added = append(added, b[j:j+x.N]...)
		}
		if x.Op != del {
			j += x.N
		}
	}
	if got, errno := lines.Apply(a, e, added); errno != api.OK || !slices.Equal(got, b) {
		t.Error(errno)
	}
	if e, _ := lines.Diff(a, a); told(e) != "K4000" {
		t.Error(told(e))
	}
}

func TestApply(t *testing.T) { // P1203
	a, added := []string{"1", "2", "3"}, []string{"x", "y"}
	for k, x := range []struct {
		e    []api.Edit
		want api.Errno
		out  string
	}{
		{[]api.Edit{{Op: keep, N: 3}, {Op: ins, N: 2}}, api.OK, "1 2 3 x y"},
		{[]api.Edit{{Op: ins, N: 1}, {Op: del, N: 2}, {Op: ins, N: 1}, {Op: keep, N: 1}}, api.OK, "x y 3"},
		{[]api.Edit{{Op: del, N: 3}, {Op: ins, N: 2}}, api.OK, "x y"},
		{[]api.Edit{{Op: 3, N: 0}}, api.ErrKind, ""},
		{[]api.Edit{{Op: -1, N: 1}}, api.ErrKind, ""},
		{[]api.Edit{{Op: keep, N: 0}}, api.ErrArg, ""},
		{[]api.Edit{{Op: keep, N: 1}, {Op: keep, N: -1}}, api.ErrArg, ""},
		{[]api.Edit{{Op: keep, N: 1}, {Op: keep, N: 9}}, api.ErrOrder, ""},
		{[]api.Edit{{Op: keep, N: 4}}, api.ErrPatch, ""},
		{[]api.Edit{{Op: keep, N: 1 << 62}}, api.ErrPatch, ""},
		{[]api.Edit{{Op: del, N: 2}, {Op: keep, N: 2}}, api.ErrPatch, ""},
		{[]api.Edit{{Op: ins, N: 3}}, api.ErrPatch, ""},
		{[]api.Edit{{Op: ins, N: 2}, {Op: keep, N: 2}}, api.ErrPatch, ""},
		{[]api.Edit{{Op: ins, N: 1}, {Op: keep, N: 3}}, api.ErrPatch, ""},
		{nil, api.ErrPatch, ""},
		{[]api.Edit{{Op: keep, N: 4}, {Op: 9, N: 1}}, api.ErrPatch, ""},
		{[]api.Edit{{Op: 9, N: 1}, {Op: keep, N: 4}}, api.ErrKind, ""},
	} {
		got, e := lines.Apply(a, x.e, added)
		if e != x.want || strings.Join(got, " ") != x.out || e != api.OK && got != nil {
			t.Errorf("%d: %q, %v", k, got, e)
		}
	}
	if got, e := lines.Apply(nil, nil, nil); e != api.OK || len(got) != 0 {
		t.Error(e)
	}
}

func TestNothingIsShared(t *testing.T) { // P2
	a := append(make([]string, 0, 9), "1", "2")
	added := append(make([]string, 0, 9), "x")
	got, _ := lines.Apply(a, []api.Edit{{Op: keep, N: 2}, {Op: ins, N: 1}}, added)
	clear(got[:cap(got)])
	b := []byte("a\nb")
	l := lines.Split(b)
	clear(b)
	if !slices.Equal(a[:3], []string{"1", "2", ""}) || added[0] != "x" || l[0] != "a\n" {
		t.Error("memory is shared")
	}
	one := []string{"a"}
	j := lines.Join(one...)
	j[0] = 'x'
	if one[0] != "a" || !bytes.Equal(lines.Join("a"), []byte("a")) {
		t.Error("memory is shared")
	}
}
