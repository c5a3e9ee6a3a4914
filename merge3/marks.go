package merge3

import (
	"selvage/api"
	"selvage/lines"
)

const (
	beginMark = "<<<<<<<"
	baseMark  = "|||||||"
	partMark  = "======="
	endMark   = ">>>>>>>"
)

// Render tells the text of chunks.
func Render(l ...api.Chunk) []byte {
	var b []byte
	for _, c := range l {
		switch c.Kind {
		case api.CSame:
			b = append(b, lines.Join(c.Base...)...)
		case api.COurs:
			fallthrough
		case api.CBoth:
			b = append(b, lines.Join(c.Ours...)...)
		case api.CTheirs:
			b = append(b, lines.Join(c.Theirs...)...)
		case api.CClash:
			b = ended(append(b, beginMark+"\n"...), c.Ours)
			b = ended(append(b, baseMark+"\n"...), c.Base)
			b = ended(append(b, partMark+"\n"...), c.Theirs)
			b = append(b, endMark+"\n"...)
		}
	}
	return b
}

// ended puts a side behind b, so that the mark behind it begins a line.
func ended(b []byte, side []string) []byte {
	s := lines.Join(side...)
	b = append(b, s...)
	if len(s) > 0 && s[len(s)-1] != '\n' {
		b = append(b, '\n')
	}
	return b
}

// markOf tells which mark a line is, from 0 on, or -1; its line feed may lack.
func markOf(line string) int {
	if n := len(line); n > 0 && line[n-1] == '\n' {
		line = line[:n-1]
	}
	switch line {
	case beginMark:
		return 0
	case baseMark:
		return 1
	case partMark:
		return 2
	case endMark:
		return 3
	}
	return -1
}

// Marks tells whether bytes have marks.
func Marks(b []byte) bool {
	for _, line := range lines.Split(b) {
		if markOf(line) >= 0 {
			return true
		}
	}
	return false
}

// Parse reads the chunks of a text with marks.
func Parse(b []byte) ([]api.Chunk, api.Errno) {
	var p pieces
	next := 0 // the mark that may come
each:
	for _, line := range lines.Split(b) {
		mark := markOf(line)
		if mark < 0 {
			p.put(next, line)
			continue each
		}
		if mark != next || line[len(line)-1] != '\n' {
			return nil, api.ErrMarks
		}
		if mark == 0 {
			p = append(p, api.Chunk{Kind: api.CClash})
		}
		next = (next + 1) % 4
	}
	if next != 0 {
		return nil, api.ErrMarks
	}
	return p, api.OK
}

// put puts a line where it belongs, if that mark is to come next.
func (p *pieces) put(next int, line string) {
	if next == 0 {
		p.same(line)
		return
	}
	c := &(*p)[len(*p)-1]
	switch next {
	case 1:
		c.Ours = append(c.Ours, line)
	case 2:
		c.Base = append(c.Base, line)
	case 3:
		c.Theirs = append(c.Theirs, line)
	}
}
