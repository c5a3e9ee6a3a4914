package name_test

import (
	"math/rand"
	"regexp"
	"slices"
	"strings"
	"testing"

	"selvage/api"
	"selvage/name"
)

func TestCheck(t *testing.T) { // P901
	for _, s := range []string{"main", "topic/a.b", "a", "Z", "0", "_", "a-", "a--b", "_/_", "a.b.c", "a/b/c/d", "a.-b", strings.Repeat("x", 60)} {
		if e := name.Check(s); e != api.OK {
			t.Errorf("Check(%q): %v", s, e)
		}
	}
	for _, s := range []string{"", "/a", "a/", "a//b", ".a", "a.", "a..b", "-a", "a/-b", "a/.b", "a./b", "/", ".", "-", "..", "a/b.", "a/..",
		"a b", "a\x00", "é", "a:b", "@", "[", "`", "{", "a\n", "~", strings.Repeat("x", 61)} {
		if e := name.Check(s); e != api.ErrName {
			t.Errorf("Check(%q): %v", s, e)
		}
	}
}

func TestCheckAllShortOnes(t *testing.T) { // P901
	part := regexp.MustCompile(`^[a-zA-Z0-9_][a-zA-Z0-9._-]*$`)
	plain := func(s string) bool {
		for _, p := range strings.Split(s, "/") {
			if !part.MatchString(p) || strings.HasSuffix(p, ".") || strings.Contains(p, "..") {
				return false
			}
		}
		return true
	}
	var walk func(s string)
	walk = func(s string) {
		if (name.Check(s) == api.OK) != plain(s) {
			t.Errorf("Check(%q): %v", s, name.Check(s))
		}
		if len(s) < 6 {
			for _, c := range "a.-_/ " {
				walk(s + string(c))
			}
		}
	}
	walk("")
	for c := range 256 {
		if s := string([]byte{'a', byte(c), 'b'}); (name.Check(s) == api.OK) != plain(s) {
			t.Errorf("Check(%q)", s)
		}
	}
}

func TestFits(t *testing.T) { // P902
	for _, x := range []struct {
		s      string
		others string
		want   api.Errno
	}{
		{"a", "", api.OK},
		{"a", "b ab A", api.OK},
		{"a/b", "a/c a-b ab/b", api.OK},
		{"a..b", "a..b", api.ErrName},
		{"a", "b a", api.ErrIs},
		{"a", "a/b a", api.ErrIs},
		{"a/b", "a", api.ErrDir},
		{"a", "c a/b", api.ErrDir},
		{"a/b/c", "a", api.ErrDir},
		{"a/b", "a/b/c", api.ErrDir},
		{"ab", "a", api.OK},
		{"a", "ab", api.OK},
	} {
		others := strings.Fields(x.others)
		in := slices.Clone(others)
		if e := name.Fits(x.s, others...); e != x.want {
			t.Errorf("Fits(%q, %q): %v, not %v", x.s, x.others, e, x.want)
		}
		if !slices.Equal(in, others) {
			t.Error("others were changed")
		}
	}
}

// Names that fit one by one fit in any order.
func TestFitsInAnyOrder(t *testing.T) { // P903
	r := rand.New(rand.NewSource(10))
	all := []string{"a", "b", "a/b", "a/c", "a/b/c", "ab", "b/a", "a.b", "b/a/c"}
	for range 500 {
		r.Shuffle(len(all), func(i, j int) { all[i], all[j] = all[j], all[i] })
		var in []string
		for _, s := range all {
			if name.Fits(s, in...) == api.OK {
				in = append(in, s)
			}
		}
		r.Shuffle(len(in), func(i, j int) { in[i], in[j] = in[j], in[i] })
		for k, s := range in {
			if e := name.Fits(s, in[:k]...); e != api.OK {
				t.Fatalf("%q, %q: %v", s, in[:k], e)
			}
		}
	}
}
