package base_test

import (
	"errors"
	"fmt"
	"math/rand"
	"slices"
	"strings"
	"testing"

	"selvage/api"
	"selvage/base"
	"selvage/graph"
	"selvage/treemerge"
)

// commits is a Source by hand.
type commits struct {
	parents map[api.Id][]api.Id
	trees   map[api.Id][]api.File
	fails   map[api.Id]error // Tree's errors
	lost    error            // of commits that are not there
}

func (c *commits) Parents(i api.Id) ([]api.Id, error) {
	l, is := c.parents[i]
	if !is {
		return nil, c.lost
	}
	return l, nil
}

func (c *commits) Tree(i api.Id) ([]api.File, error) {
	if err := c.fails[i]; err != nil {
		return nil, err
	}
	return c.trees[i], nil
}

func id(k int) api.Id { return api.Id{0: byte(k >> 8), 1: byte(k), 31: 1} }

func ids(l ...int) []api.Id {
	var out []api.Id
	for _, k := range l {
		out = append(out, id(k))
	}
	return out
}

func files(s string) []api.File {
	var l []api.File
	for _, x := range strings.Fields(s) {
		path, data, _ := strings.Cut(x, "=")
		f := api.File{Path: path, Kind: api.KFile}
		for _, c := range data {
			f.Data = append(f.Data, byte(c), '\n')
		}
		l = append(l, f)
	}
	return l
}

func told(l []api.File) string {
	var out []string
	for _, f := range l {
		out = append(out, f.Path+"="+strings.ReplaceAll(string(f.Data), "\n", ""))
	}
	return strings.Join(out, " ")
}

// add puts a commit among those of c.
func (c *commits) add(k int, tree string, parents ...int) {
	c.parents[id(k)] = ids(parents...)
	c.trees[id(k)] = files(tree)
}

func none() *commits {
	return &commits{parents: map[api.Id][]api.Id{}, trees: map[api.Id][]api.File{}, fails: map[api.Id]error{}, lost: api.ErrNone}
}

// crossed: two commits, 4 and 5, that each merged the other's parent.
func crossed() *commits {
	c := none()
	c.add(1, "f=abcdef")
	c.add(2, "f=1bcdef", 1)
	c.add(3, "f=abcde6", 1)
	c.add(4, "f=1bcde6 g=4", 2, 3)
	c.add(5, "f=1bxde6 h=5", 3, 2)
	c.add(9, "z=9")
	return c
}

func TestOf(t *testing.T) { // P1801
	for k, x := range []struct {
		a, b  int
		bases []api.Id
		tree  string
	}{
		{2, 3, ids(1), "f=abcdef"},
		{4, 2, ids(2), "f=1bcdef"},
		{4, 4, ids(4), "f=1bcde6 g=4"},
		{4, 5, ids(2, 3), "f=1bcde6"},
		{4, 9, nil, ""},
		{9, 9, ids(9), "z=9"},
	} {
		for range 2 {
			bases, tree, err := base.Of(crossed(), id(x.a), id(x.b))
			if err != nil || !slices.Equal(bases, x.bases) || told(tree) != x.tree {
				t.Errorf("%d: %v, %s, %v", k, bases, told(tree), err)
			}
			x.a, x.b = x.b, x.a
		}
	}
}

func TestMerge(t *testing.T) { // P1802
	got, clashes, err := base.Merge(crossed(), id(4), id(5))
	if err != nil || told(got) != "f=1bxde6 g=4 h=5" || len(clashes) != 0 {
		t.Errorf("%s, %v, %v", told(got), clashes, err)
	}
	c := crossed()
	c.add(6, "f=Abcdef", 1)
	c.add(7, "f=Bbcdef", 1)
	got, clashes, err = base.Merge(c, id(6), id(7))
	if err != nil || len(got) != 1 || !strings.HasPrefix(string(got[0].Data), "<<<<<<<\nA\n|||||||\na\n=======\nB\n>>>>>>>\nb\n") ||
		!slices.Equal(clashes, []api.Clash{{Path: "f", Why: api.WContent}}) {
		t.Errorf("%s, %v, %v", told(got), clashes, err)
	}
	got, clashes, err = base.Merge(c, id(4), id(9))
	if err != nil || told(got) != "f=1bcde6 g=4 z=9" || len(clashes) != 0 {
		t.Errorf("%s, %v, %v", told(got), clashes, err)
	}
}

// The base of several is made of them one by one, whatever clashes.
func TestOfThree(t *testing.T) { // P1801
	c := none()
	c.add(1, "f=abc")
	c.add(2, "f=xbc", 1)
	c.add(3, "f=ybc", 1)
	c.add(4, "f=abz k=1", 1)
	c.add(5, "", 2, 3, 4)
	c.add(6, "", 4, 3, 2)
	want := files("f=abc")
	over := want
	first, _, _ := treemerge.Merge(over, files("f=xbc"), files("f=ybc"))
	all, _, _ := treemerge.Merge(over, first, files("f=abz k=1"))
	bases, tree, err := base.Of(c, id(5), id(6))
	if err != nil || !slices.Equal(bases, ids(2, 3, 4)) || told(tree) != told(all) || !strings.Contains(told(all), "<<<<<<<") {
		t.Errorf("%v, %s, %v", bases, told(tree), err)
	}
}

// Bases of bases: each further one is merged over what Of tells of the first one and it.
func TestOfOverOf(t *testing.T) { // P1801
	c := crossed()
	c.add(6, "f=1bcde6 g=4 h=5", 4, 5)
	c.add(7, "f=1bxde6 g=4 h=5", 5, 4)
	_, over, _ := base.Of(c, id(4), id(5))
	want, _, _ := treemerge.Merge(over, c.trees[id(4)], c.trees[id(5)])
	bases, tree, err := base.Of(c, id(6), id(7))
	if err != nil || !slices.Equal(bases, ids(4, 5)) || told(tree) != told(want) {
		t.Errorf("%v, %s, %v", bases, told(tree), err)
	}
}

// ladder tells n crossings, one above the other; the youngest are 2n and 2n + 1.
func ladder(n int) *commits {
	c := none()
	c.add(1, "")
	c.add(2, "", 1)
	c.add(3, "", 1)
	for k := 2; k <= n; k++ {
		c.add(2*k, "", 2*k-2, 2*k-1)
		c.add(2*k+1, "", 2*k-2, 2*k-1)
	}
	return c
}

func TestManyMerges(t *testing.T) { // P1801
	if _, _, err := base.Of(ladder(101), id(202), id(203)); err != nil { // one merge for each crossing but the last one
		t.Error(err)
	}
	if bases, tree, err := base.Of(ladder(102), id(204), id(205)); err != api.ErrMany || bases != nil || tree != nil {
		t.Error(err)
	}
	if _, _, err := base.Merge(ladder(101), id(202), id(203)); err != nil {
		t.Error(err)
	}
	if f, c, err := base.Merge(ladder(102), id(204), id(205)); err != api.ErrMany || f != nil || c != nil {
		t.Error(err)
	}
}

type wrapped struct{ error }

func (w wrapped) Unwrap() error { return w.error }

func TestErrors(t *testing.T) {
	other := errors.New("other")
	for _, x := range []struct{ fails, want error }{
		{api.ErrSum, api.ErrSum}, {other, other}, {wrapped{api.ErrDead}, api.ErrDead},
	} {
		c := crossed()
		c.lost = x.fails
		c.add(6, "", 77)
		if l, f, err := base.Of(c, id(6), id(1)); err != x.want || l != nil || f != nil {
			t.Error(err)
		}
		if l, f, err := base.Merge(c, id(1), id(6)); err != x.want || l != nil || f != nil {
			t.Error(err)
		}
		for _, k := range []int{1, 2, 3, 4, 5} {
			c = crossed()
			c.fails[id(k)] = x.fails
			l, f, err := base.Of(c, id(4), id(5))
			if k < 4 && (err != x.want || l != nil || f != nil) || k >= 4 && err != nil {
				t.Error(k, err)
			}
			if f, l, err := base.Merge(c, id(4), id(5)); err != x.want || l != nil || f != nil {
				t.Error(k, err)
			}
		}
		keep := wrapped{other}
		c.fails[id(1)] = keep
		if _, _, err := base.Of(c, id(1), id(1)); err != keep {
			t.Error(err)
		}
	}
	c := crossed()
	c.trees[id(2)] = []api.File{{Path: "/", Kind: 1}}
	if l, f, err := base.Of(c, id(4), id(5)); err != api.ErrName || l != nil || f != nil {
		t.Error(err)
	}
	if f, l, err := base.Merge(c, id(2), id(1)); err != api.ErrName || l != nil || f != nil {
		t.Error(err)
	}
	// graph's own
	x, y := []int{}, []int{}
	for k := 1; k <= 17; k++ {
		c.add(k+100, "")
		x, y = append(x, k+100), append(y, k+100)
	}
	c.add(201, "", x...)
	c.add(202, "", y...)
	if _, _, err := base.Of(c, id(201), id(202)); err != api.ErrMany {
		t.Error(err)
	}
}

func TestLaws(t *testing.T) { // P1803
	r := rand.New(rand.NewSource(22))
	several := 0
	for range 1500 {
		c := none()
		n := 4 + r.Intn(8)
		for k := 1; k <= n; k++ {
			var parents []int
			for range 2 {
				if p := k - 2 - r.Intn(3); p > 0 && !slices.Contains(parents, p) {
					parents = append(parents, p)
				}
			}
			c.add(k, fmt.Sprintf("a=k%dlm b=%d", r.Intn(4), r.Intn(3)), parents...)
		}
		a, b := id(1+r.Intn(n)), id(1+r.Intn(n))
		l1, f1, err1 := base.Of(c, a, b)
		l2, f2, err2 := base.Of(c, b, a)
		bases, _ := graph.Bases(c, a, b)
		if err1 != nil || err2 != nil || !slices.Equal(l1, l2) || told(f1) != told(f2) || !slices.Equal(l1, bases) {
			t.Fatal(l1, l2, err1, err2)
		}
		if len(l1) > 1 {
			several++
		}
		if above, _ := graph.Above(c, a, b); above {
			got, clashes, err := base.Merge(c, a, b)
			if err != nil || told(got) != told(c.trees[b]) || len(clashes) != 0 {
				t.Fatal(told(got), clashes, err)
			}
		}
	}
	if several < 10 {
		t.Error("few have several bases:", several)
	}
}

func TestNothingIsShared(t *testing.T) { // P2
	c := crossed()
	for _, l := range [][2]int{{1, 1}, {4, 5}} {
		_, tree, _ := base.Of(c, id(l[0]), id(l[1]))
		for k := range tree {
			clear(tree[k].Data)
			tree[k].Path = "!"
		}
		got, _, _ := base.Merge(c, id(l[0]), id(l[1]))
		for k := range got {
			clear(got[k].Data)
		}
	}
	for i, tree := range crossed().trees {
		if told(c.trees[i]) != told(tree) {
			t.Error("the Source's memory is shared")
		}
	}
}
