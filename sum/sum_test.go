package sum_test

import (
	"bytes"
	"crypto/sha256"
	"encoding/hex"
	"math/rand"
	"slices"
	"strings"
	"testing"

	"selvage/api"
	"selvage/sum"
)

func TestOfTheExamples(t *testing.T) { // P101
	for text, want := range map[string]string{
		"":    "e3b0c44298fc1c149afbf4c8996fb92427ae41e4649b934ca495991b7852b855",
		"abc": "ba7816bf8f01cfea414140de5dae2223b00361a396177a9cb410ff61f20015ad",
	} {
		if got := sum.Hex(sum.Of([]byte(text))); got != want {
			t.Errorf("Of(%q): %s", text, got)
		}
	}
	if sum.Of() != sum.Of(nil) || sum.Of() != sum.Of([]byte{}, nil) {
		t.Error("rows without bytes count")
	}
}

func TestOfAllLengths(t *testing.T) { // P101
	r := rand.New(rand.NewSource(1))
	for n := range 400 {
		b := make([]byte, n)
		r.Read(b)
		if sum.Of(b) != sha256.Sum256(b) {
			t.Fatalf("%d bytes", n)
		}
	}
	b := make([]byte, 1<<20+17)
	r.Read(b)
	if sum.Of(b) != sha256.Sum256(b) {
		t.Error("many bytes")
	}
}

// So many bytes that their bits are counted in more than 32 bits.
func TestManyBytes(t *testing.T) { // P101, P102
	h, want := sum.New(), sha256.New()
	b := make([]byte, 1<<23+1)
	for range 1 << 6 {
		h.Write(b)
		want.Write(b)
	}
	if got := h.Sum(); !bytes.Equal(got[:], want.Sum(nil)) {
		t.Error("beyond 2^32 bits the sum is another one")
	}
}

func TestHashInPieces(t *testing.T) { // P102, P103
	r := rand.New(rand.NewSource(2))
	for range 300 {
		h := sum.New()
		var all []byte
		for range r.Intn(6) {
			rows := make([][]byte, r.Intn(4))
			for k := range rows {
				rows[k] = make([]byte, r.Intn(150))
				r.Read(rows[k])
				all = append(all, rows[k]...)
			}
			h.Write(rows...)
			if h.Sum() != sha256.Sum256(all) || h.Sum() != sha256.Sum256(all) {
				t.Fatalf("%d bytes in pieces", len(all))
			}
			cut := r.Intn(len(all) + 1)
			if sum.Of(all[:cut], all[cut:]) != sum.Of(all) {
				t.Fatalf("%d bytes cut at %d", len(all), cut)
			}
		}
	}
	if sum.New().Sum() != sum.Of() {
		t.Error("a Hash to which nothing was written")
	}
}

func TestWhatIsHandedInStays(t *testing.T) { // P2
	b := bytes.Repeat([]byte("x"), 200)
	row := b[:70]
	h := sum.New()
	h.Write(row)
	want := h.Sum()
	if !bytes.Equal(b, bytes.Repeat([]byte("x"), 200)) {
		t.Error("a row was changed")
	}
	clear(b)
	if h.Sum() != want {
		t.Error("a row was kept")
	}
}

func TestHexAndParse(t *testing.T) { // P101, P103
	r := rand.New(rand.NewSource(3))
	for range 100 {
		var i api.Id
		r.Read(i[:])
		s := sum.Hex(i)
		if s != hex.EncodeToString(i[:]) {
			t.Fatalf("Hex: %s", s)
		}
		if got, e := sum.Parse(s); got != i || e != api.OK {
			t.Fatalf("Parse(%s): %v", s, e)
		}
	}
}

func TestParseRefuses(t *testing.T) { // P101
	good := strings.Repeat("0a9f", 16)
	if _, e := sum.Parse(good); e != api.OK {
		t.Fatal(e)
	}
	bad := []string{"", "a", good[1:], good + "0", strings.ToUpper(good), good + good}
	for _, c := range "/:`gGAF \n\x00é" {
		bad = append(bad, (string(c) + good)[:64], (good[:63] + string(c))[:64])
	}
	for _, s := range bad {
		if i, e := sum.Parse(s); e != api.ErrArg || i != (api.Id{}) {
			t.Errorf("Parse(%q): %v", s, e)
		}
	}
}

func TestLess(t *testing.T) { // P101
	r := rand.New(rand.NewSource(4))
	for range 1000 {
		var a, b api.Id
		k := r.Intn(32)
		a[k], b[k] = byte(r.Intn(256)), byte(r.Intn(256))
		if k > 0 && r.Intn(2) == 0 {
			a[k-1], b[k-1] = 7, 7
		}
		if sum.Less(a, b) != (slices.Compare(a[:], b[:]) < 0) {
			t.Fatalf("%v %v", a, b)
		}
	}
	if sum.Less(api.Id{1}, api.Id{0, 255}) || !sum.Less(api.Id{0, 255}, api.Id{1}) {
		t.Error("the first bytes do not count most")
	}
}
