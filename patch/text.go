package patch

import (
	"strconv"
	"strings"

	"selvage/api"
)

const (
	prefixes = " -+" // of lines that are kept, deleted, inserted
	noEnd    = "\n\\\n"
)

func allMayBe(l []api.Hunk) bool {
	for _, h := range l {
		if !mayBe(h) {
			return false
		}
	}
	return true
}

// mayBe tells whether a hunk may be.
func mayBe(h api.Hunk) bool {
	if h.AtA < 0 || h.AtA > mostAt || h.AtB < 0 || h.AtB > mostAt {
		return false
	}
	left, changes := len(h.Lines), 0
	for k, x := range h.Edits {
		switch {
		case x.Op < api.Keep || x.Op > api.Insert, x.N < 1 || x.N > left, k > 0 && h.Edits[k-1].Op == x.Op:
			return false
		case x.Op != api.Keep:
			changes++
		}
		left -= x.N
	}
	for _, s := range h.Lines {
		if s == "" || strings.IndexByte(s[:len(s)-1], '\n') >= 0 {
			return false
		}
	}
	return left == 0 && changes > 0
}

// Text writes a patch.
func Text(l ...api.Hunk) (string, api.Errno) {
	if !allMayBe(l) {
		return "", api.ErrArg
	}
	var b strings.Builder
	for _, h := range l {
		writeHead(&b, h)
		k := 0
		for _, x := range h.Edits {
			for _, s := range h.Lines[k : k+x.N] {
				b.WriteByte(prefixes[x.Op])
				b.WriteString(s)
				if s[len(s)-1] != '\n' {
					b.WriteString(noEnd)
				}
			}
			k += x.N
		}
	}
	return b.String(), api.OK
}

func writeHead(b *strings.Builder, h api.Hunk) {
	var n [3]int
	for _, x := range h.Edits {
		n[x.Op] += x.N
	}
	b.WriteString("@@ -" + strconv.Itoa(h.AtA) + "," + strconv.Itoa(n[api.Keep]+n[api.Delete]))
	b.WriteString(" +" + strconv.Itoa(h.AtB) + "," + strconv.Itoa(n[api.Keep]+n[api.Insert]) + " @@\n")
}

// Parse reads what Text writes. It reads more than that, and asks Text whether it was that.
func Parse(s string) ([]api.Hunk, api.Errno) {
	l, ok := read(s)
	if !ok {
		return nil, api.ErrPatch
	}
	if again, e := Text(l...); e != api.OK || again != s {
		return nil, api.ErrPatch
	}
	return l, api.OK
}

func read(s string) ([]api.Hunk, bool) {
	var l []api.Hunk
	for s != "" {
		end := strings.IndexByte(s, '\n') + 1
		if end == 0 {
			return nil, false
		}
		line := s[:end]
		s = s[end:]
		if line[0] == '@' {
			h, ok := readHead(line)
			if !ok {
				return nil, false
			}
			l = append(l, h)
			continue
		}
		op := strings.IndexByte(prefixes, line[0])
		if len(l) == 0 || op < 0 {
			return nil, false
		}
		line = line[1:]
		if strings.HasPrefix(s, noEnd[1:]) {
			line, s = line[:len(line)-1], s[len(noEnd)-1:]
		}
		put(&l[len(l)-1], op, []string{line})
	}
	return l, true
}

// readHead reads the places of a hunk; how many lines it tells of is asked by Parse.
func readHead(line string) (api.Hunk, bool) {
	left, right, ok := strings.Cut(strings.TrimPrefix(line, "@@ -"), " +")
	if !ok {
		return api.Hunk{}, false
	}
	atA, errA := strconv.Atoi(before(left, ","))
	atB, errB := strconv.Atoi(before(right, ","))
	return api.Hunk{AtA: atA, AtB: atB}, errA == nil && errB == nil
}

func before(s, end string) string {
	s, _, _ = strings.Cut(s, end)
	return s
}
