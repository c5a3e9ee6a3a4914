package delta_test

import (
	"bytes"
	"math/rand"
	"strings"
	"testing"

	"selvage/api"
	"selvage/delta"
)

func row(l ...any) []byte {
	var b []byte
	for _, x := range l {
		switch x := x.(type) {
		case int:
			b = append(b, byte(x>>24), byte(x>>16), byte(x>>8), byte(x))
		case byte:
			b = append(b, x)
		case string:
			b = append(b, x...)
		}
	}
	return b
}

const one, two = byte(1), byte(2)

func TestMake(t *testing.T) { // P601
	long := strings.Repeat("ab", 300)
	for _, x := range []struct {
		base, target string
		want         []byte
	}{
		{"abcd", "abXcd", row(4, 5, one, 0, 2, two, 1, "X", one, 2, 2)},
		{"", "", row(0, 0)},
		{"a", "", row(1, 0)},
		{"", "a", row(0, 1, two, 1, "a")},
		{"a", "a", row(1, 1, one, 0, 1)},
		{"aa", "a", row(2, 1, one, 0, 1)},
		{"aaa", "aaaaa", row(3, 5, one, 0, 3, two, 2, "aa")},
		{"aXa", "aa", row(3, 2, one, 0, 1, one, 2, 1)},
		{"abc", "xyz", row(3, 3, two, 3, "xyz")},
		{"abc", "bc", row(3, 2, one, 1, 2)},
		{"xbc", "ybc", row(3, 3, two, 1, "y", one, 1, 2)},
		{long, long + "c", row(600, 601, one, 0, 600, two, 1, "c")},
		{long + "c", "c" + long, row(601, 601, two, 601, "c"+long)},
	} {
		if got := delta.Make([]byte(x.base), []byte(x.target)); !bytes.Equal(got, x.want) {
			t.Errorf("Make(%.9q, %.9q): %v, not %v", x.base, x.target, got, x.want)
		}
	}
}

func TestApply(t *testing.T) { // P602
	base := "abcd"
	for k, x := range []struct {
		delta  []byte
		want   api.Errno
		target string
	}{
		{row(4, 0), api.OK, ""},
		{row(4, 3, two, 3, "xyz"), api.OK, "xyz"},
		{row(4, 7, one, 2, 2, one, 0, 4, two, 1, "x"), api.OK, "cdabcdx"},
		{row(4, 4, one, 3, 1, one, 3, 1, one, 3, 1, one, 0, 1), api.OK, "ddda"},
		{nil, api.ErrCut, ""},
		{row(4, 0)[:7], api.ErrCut, ""},
		{row(5), api.ErrCut, ""},
		{row(5, 0), api.ErrArg, ""},
		{row(3, 1, byte(9)), api.ErrArg, ""},
		{row(4, 1, one, 0, 1)[:16], api.ErrCut, ""},
		{row(4, 1, one), api.ErrCut, ""},
		{row(4, 1, one, 9, 1)[:16], api.ErrCut, ""},
		{row(4, 1, one, 9), api.ErrCut, ""},
		{row(4, 1, two), api.ErrCut, ""},
		{row(4, 1, two, 0)[:12], api.ErrCut, ""},
		{row(4, 1, two, 2, "x"), api.ErrCut, ""},
		{row(4, 1, two, -1, "x"), api.ErrCut, ""},
		{row(4, 1, byte(0)), api.ErrBad, ""},
		{row(4, 1, byte(3), 0, 1), api.ErrBad, ""},
		{row(4, 0, two, 0), api.ErrBad, ""},
		{row(4, 0, one, 0, 0), api.ErrBad, ""},
		{row(4, 0, one, 4, 0), api.ErrBad, ""},
		{row(4, 1, one, 4, 1), api.ErrBad, ""},
		{row(4, 9, one, 0, 5), api.ErrBad, ""},
		{row(4, 9, one, -1, 1), api.ErrBad, ""},
		{row(4, 9, one, 1, -1), api.ErrBad, ""},
		{row(4, 2, one, 0, 3), api.ErrBad, ""},
		{row(4, 2, two, 3, "xyz"), api.ErrBad, ""},
		{row(4, 2, one, 0, 2, two, 1, "x"), api.ErrBad, ""},
		{row(4, 2, two, 3, "xy"), api.ErrCut, ""},
		{row(4, 3, one, 0, 2), api.ErrBad, ""},
		{row(4, -1, one, 0, 2), api.ErrBad, ""},
		{row(4, 1), api.ErrBad, ""},
	} {
		got, e := delta.Apply([]byte(base), x.delta)
		if e != x.want || string(got) != x.target || e != api.OK && got != nil {
			t.Errorf("%d: %q, %v, not %q, %v", k, got, e, x.target, x.want)
		}
	}
}

// Numbers have four bytes.
func TestManyBytes(t *testing.T) { // P601, P602
	for _, n := range []int{300, 70000, 1<<24 + 300} {
		base := bytes.Repeat([]byte("x"), n)
		target := append(append(bytes.Clone(base), "y"...), base...)
		d := delta.Make(base, target)
		want := row(n, 2*n+1, one, 0, n, two, n+1, "y"+string(base))
		if !bytes.Equal(d, want) {
			t.Errorf("Make of %d bytes: %d bytes, not %d", n, len(d), len(want))
		}
		if got, e := delta.Apply(base, d); e != api.OK || !bytes.Equal(got, target) {
			t.Errorf("Apply of %d bytes: %v", n, e)
		}
		back := delta.Make(target, base[1:])
		if got, e := delta.Apply(target, append(back[:8:8], row(one, n+2, n-1)...)); e != api.OK || !bytes.Equal(got, base[1:]) {
			t.Errorf("Apply of %d bytes: %v", n, e)
		}
	}
}

func TestApplyOfMake(t *testing.T) { // P603
	r := rand.New(rand.NewSource(7))
	for range 3000 {
		base, target := make([]byte, r.Intn(12)), make([]byte, r.Intn(12))
		for _, b := range [][]byte{base, target} {
			for k := range b {
				b[k] = byte('a' + r.Intn(2))
			}
		}
		d := delta.Make(base, target)
		got, e := delta.Apply(base, d)
		if e != api.OK || !bytes.Equal(got, target) {
			t.Fatalf("%q, %q: %q, %v", base, target, got, e)
		}
		if len(d) > len(target)+31 {
			t.Fatalf("%q, %q: %d bytes", base, target, len(d))
		}
		if d = delta.Make(base, base); len(base) > 0 && len(d) != 17 {
			t.Fatalf("%q: %d bytes", base, len(d))
		}
		for n := range d { // and no beginning of a delta is one
			if _, e := delta.Apply(base, d[:n]); e == api.OK {
				t.Fatalf("%d bytes of %q", n, d)
			}
		}
	}
}

func TestNothingIsShared(t *testing.T) { // P2
	base, d := []byte("abcd"), row(4, 5, one, 0, 4, two, 1, "xyz")[:23]
	got, _ := delta.Apply(base, d)
	got = append(got, "!!!!"...)
	clear(got)
	if string(base) != "abcd" || !bytes.Equal(d, row(4, 5, one, 0, 4, two, 1, "x")) {
		t.Error("an answer shares memory")
	}
}
