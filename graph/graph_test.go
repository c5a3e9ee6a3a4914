package graph_test

import (
	"bytes"
	"errors"
	"math/rand"
	"slices"
	"testing"

	"selvage/api"
	"selvage/graph"
)

// commits is a Source by hand; asked counts.
type commits struct {
	parents map[api.Id][]api.Id
	asked   map[api.Id]int
	buffer  []api.Id
}

func (c *commits) Parents(i api.Id) ([]api.Id, error) {
	c.asked[i]++
	if _, is := c.parents[i]; !is {
		return nil, lost{i}
	}
	c.buffer = append(c.buffer[:0], c.parents[i]...) // its own memory, used again
	return c.buffer, nil
}

type lost struct{ i api.Id }

func (lost) Error() string { return "lost" }

func id(k int) api.Id { return api.Id{0: byte(k >> 8), 1: byte(k), 31: 1} }

func ids(l ...int) []api.Id {
	var out []api.Id
	for _, k := range l {
		out = append(out, id(k))
	}
	return out
}

// source tells one of commits, each with the numbers of its parents behind it.
func source(l ...[]int) *commits {
	c := &commits{parents: map[api.Id][]api.Id{}, asked: map[api.Id]int{}}
	for _, x := range l {
		c.parents[id(x[0])] = ids(x[1:]...)
	}
	return c
}

// once asks that just these were asked, each once.
func once(t *testing.T, c *commits, l ...int) {
	t.Helper()
	for _, k := range l {
		if c.asked[id(k)] != 1 {
			t.Errorf("%d was asked %d times", k, c.asked[id(k)])
		}
	}
	if len(c.asked) != len(l) {
		t.Errorf("%d commits were asked, not %d", len(c.asked), len(l))
	}
}

// crossed: 1 is the root; 2, 3 are of it; 4, 5 merged both; 6 is of 4, 7 of 5; 8 stands by itself.
func crossed() *commits {
	return source([]int{1}, []int{2, 1}, []int{3, 1}, []int{4, 2, 3}, []int{5, 3, 2}, []int{6, 4}, []int{7, 5}, []int{8})
}

func TestAbove(t *testing.T) { // P1101
	for _, x := range []struct {
		a, b int
		want bool
	}{{1, 1, true}, {1, 6, true}, {6, 1, false}, {2, 7, true}, {4, 7, false}, {8, 6, false}, {6, 8, false}, {8, 8, true}, {2, 3, false}} {
		if got, err := graph.Above(crossed(), id(x.a), id(x.b)); got != x.want || err != nil {
			t.Errorf("Above(%d, %d): %v, %v", x.a, x.b, got, err)
		}
	}
	c := crossed()
	graph.Above(c, id(6), id(8))
	once(t, c, 6, 4, 2, 3, 1, 8)
}

func TestGen(t *testing.T) { // P1101
	for k, want := range []int{0, 0, 1, 1, 2, 2, 3, 3, 0} {
		if k == 0 {
			continue
		}
		if got, err := graph.Gen(crossed(), id(k)); got != want || err != nil {
			t.Errorf("Gen(%d): %d, %v", k, got, err)
		}
	}
	// the longest way, not the shortest one
	c := source([]int{1}, []int{9, 1}, []int{5, 9}, []int{3, 1, 5}, []int{4, 3, 1})
	if got, _ := graph.Gen(c, id(4)); got != 4 {
		t.Error(got)
	}
	once(t, c, 1, 9, 5, 3, 4)
}

func TestBases(t *testing.T) { // P1102
	for _, x := range []struct {
		a, b int
		want []int
	}{
		{2, 3, []int{1}}, {4, 2, []int{2}}, {4, 5, []int{2, 3}}, {6, 7, []int{2, 3}}, {6, 5, []int{2, 3}},
		{6, 8, nil}, {6, 6, []int{6}}, {1, 7, []int{1}}, {4, 6, []int{4}},
	} {
		for range 2 {
			got, err := graph.Bases(crossed(), id(x.a), id(x.b))
			if err != nil || !slices.Equal(got, ids(x.want...)) {
				t.Errorf("Bases(%d, %d): %v, %v", x.a, x.b, got, err)
			}
			x.a, x.b = x.b, x.a
		}
	}
	c := crossed()
	graph.Bases(c, id(6), id(5))
	once(t, c, 6, 4, 2, 3, 1, 5)
}

func TestMaxBases(t *testing.T) { // P1102
	for n, want := range map[int]error{16: nil, 17: api.ErrMany} {
		x, y := []int{100}, []int{101}
		var l [][]int
		for k := 1; k <= n; k++ {
			x, y = append(x, k), append(y, k)
			l = append(l, []int{k})
		}
		got, err := graph.Bases(source(append(l, x, y)...), id(100), id(101))
		if err != want || want == nil && len(got) != n || want != nil && got != nil {
			t.Errorf("%d bases: %d, %v", n, len(got), err)
		}
	}
}

func TestOrder(t *testing.T) { // P1103
	for k, x := range []struct{ from, until, want []int }{
		{[]int{6}, nil, []int{1, 2, 3, 4, 6}},
		{[]int{6, 7}, nil, []int{1, 2, 3, 4, 5, 6, 7}},
		{[]int{7, 8, 6, 6}, []int{3}, []int{2, 4, 5, 6, 7, 8}},
		{[]int{6}, []int{2}, []int{3, 4, 6}},
		{[]int{6}, []int{6}, nil},
		{[]int{2}, []int{6}, nil},
		{nil, []int{6}, nil},
		{nil, nil, nil},
		{[]int{4, 8}, []int{7}, []int{4, 8}},
	} {
		got, err := graph.Order(crossed(), ids(x.from...), ids(x.until...))
		if err != nil || !slices.Equal(got, ids(x.want...)) {
			t.Errorf("%d: %v, %v", k, got, err)
		}
	}
	// the lowest one that could come next, not the lowest one
	c := source([]int{9}, []int{1, 9}, []int{5}, []int{2, 5}, []int{3, 1, 2})
	got, _ := graph.Order(c, ids(3), nil)
	if !slices.Equal(got, ids(5, 2, 9, 1, 3)) {
		t.Error(got)
	}
	once(t, c, 9, 1, 5, 2, 3)
	c = crossed()
	graph.Order(c, ids(2), ids(8, 2))
	once(t, c, 2, 1, 8)
}

func TestErrors(t *testing.T) {
	c := source([]int{1, 77}, []int{2})
	for _, call := range []func(a, b api.Id) error{
		func(a, b api.Id) error {
			is, err := graph.Above(c, a, b)
			if err != nil && is {
				t.Error("an answer beside an error")
			}
			return err
		},
		func(a, b api.Id) error {
			l, err := graph.Bases(c, a, b)
			if err != nil && l != nil {
				t.Error("an answer beside an error")
			}
			return err
		},
		func(a, b api.Id) error {
			l, err := graph.Order(c, []api.Id{a}, []api.Id{b})
			if err != nil && l != nil {
				t.Error("an answer beside an error")
			}
			return err
		},
		func(a, b api.Id) error { // of one that is handed in alone
			if n, err := graph.Gen(c, b); err != nil {
				if n != 0 {
					t.Error("an answer beside an error")
				}
				return err
			}
			_, err := graph.Gen(c, a)
			return err
		},
	} {
		for _, l := range [][2]int{{1, 2}, {2, 1}, {1, 1}} {
			if err := call(id(l[0]), id(l[1])); err != (lost{id(77)}) || !errors.As(err, new(lost)) {
				t.Errorf("%v", err)
			}
		}
		if err := call(id(2), id(2)); err != nil {
			t.Error(err)
		}
	}
}

// row tells n commits, one of the other, n the youngest.
func row(n int) *commits {
	l := [][]int{{1}}
	for k := 2; k <= n; k++ {
		l = append(l, []int{k, k - 1})
	}
	return source(l...)
}

func TestMaxCommits(t *testing.T) {
	c := row(5001)
	if n, err := graph.Gen(c, id(5000)); n != 4999 || err != nil {
		t.Error(n, err)
	}
	if n, err := graph.Gen(c, id(5001)); n != 0 || err != api.ErrMany {
		t.Error(n, err)
	}
	if is, err := graph.Above(c, id(1), id(5001)); is || err != api.ErrMany {
		t.Error(is, err)
	}
	if is, err := graph.Above(c, id(5001), id(1)); is || err != api.ErrMany {
		t.Error(is, err)
	}
	if l, err := graph.Bases(c, id(5001), id(2)); l != nil || err != api.ErrMany {
		t.Error(l, err)
	}
	if l, err := graph.Order(c, ids(7), ids(5001)); l != nil || err != api.ErrMany {
		t.Error(l, err)
	}
	if l, err := graph.Order(c, ids(5000, 4000), ids(4000)); len(l) != 1000 || err != nil {
		t.Error(len(l), err)
	}
}

// TestRandomGraphs holds the calls against the words they are told in.
func TestRandomGraphs(t *testing.T) { // P1101 to P1104
	r := rand.New(rand.NewSource(12))
	for range 300 {
		n := 2 + r.Intn(12)
		names := r.Perm(n)
		var l [][]int
		up := make([]map[int]bool, n) // by place: what stands above it
		for k := range n {
			x := []int{names[k]}
			up[k] = map[int]bool{k: true}
			for range r.Intn(4) {
				if k == 0 {
					break
				}
				p := r.Intn(k)
				if slices.Contains(x[1:], names[p]) {
					continue
				}
				x = append(x, names[p])
				for q := range up[p] {
					up[k][q] = true
				}
			}
			l = append(l, x)
		}
		c := source(l...)
		a, b := r.Intn(n), r.Intn(n)
		var bases []api.Id
		for k := range n {
			low := up[a][k] && up[b][k]
			for o := range n {
				low = low && !(o != k && up[a][o] && up[b][o] && up[o][k])
			}
			if low {
				bases = append(bases, id(names[k]))
			}
		}
		slices.SortFunc(bases, func(x, y api.Id) int { return bytes.Compare(x[:], y[:]) })
		if got, err := graph.Bases(c, id(names[a]), id(names[b])); err != nil || !slices.Equal(got, bases) {
			t.Fatalf("%v: Bases(%d, %d): %v, %v", l, names[a], names[b], got, err)
		}
		if got, err := graph.Above(c, id(names[a]), id(names[b])); err != nil || got != up[b][a] {
			t.Fatalf("%v: Above(%d, %d): %v, %v", l, names[a], names[b], got, err)
		}
		var order []api.Id
		for {
			next := -1
			for k := range n {
				ready := up[a][k] && !up[b][k] && !slices.Contains(order, id(names[k]))
				for o := range up[k] {
					ready = ready && (o == k || up[b][o] || slices.Contains(order, id(names[o])))
				}
				if ready && (next < 0 || names[k] < names[next]) {
					next = k
				}
			}
			if next < 0 {
				break
			}
			order = append(order, id(names[next]))
		}
		if got, err := graph.Order(c, ids(names[a]), ids(names[b])); err != nil || !slices.Equal(got, order) {
			t.Fatalf("%v: Order(%d, %d): %v, not %v", l, names[a], names[b], got, order)
		}
	}
}

// Parents that go round, or stand twice, are not told of; the calls end all the same.
func TestParentsThatGoRound(t *testing.T) { // P1
	c := source([]int{1, 2}, []int{2, 1}, []int{3, 3, 1}, []int{4, 4})
	for _, a := range ids(1, 2, 3, 4) {
		for _, b := range ids(1, 2, 3, 4) {
			graph.Above(c, a, b)
			graph.Bases(c, a, b)
			graph.Gen(c, a)
			graph.Order(c, []api.Id{a}, []api.Id{b})
		}
	}
}

func TestNothingIsChanged(t *testing.T) { // P2
	from := append(make([]api.Id, 0, 9), ids(6, 7)...)
	until := append(make([]api.Id, 0, 9), ids(2)...)
	graph.Order(crossed(), from, until)
	if !slices.Equal(from[:9], append(ids(6, 7), make([]api.Id, 7)...)) || !slices.Equal(until[:9], append(ids(2), make([]api.Id, 8)...)) {
		t.Error("what was handed in was changed")
	}
}
