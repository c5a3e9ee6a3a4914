package shell

import (
	"strings"

	"selvage/api"
)

const (
	blanks = " \t"
	digits = "0123456789abcdef"
)

// Words takes a line to pieces.
func Words(line string) ([]string, api.Errno) {
	var l []string
	for {
		line = strings.TrimLeft(line, blanks)
		if line == "" || line[0] == '#' {
			return l, api.OK
		}
		word, n, ok := bare(line)
		if line[0] == '"' {
			word, n, ok = quoted(line)
		}
		if !ok || n < len(line) && strings.IndexByte(blanks, line[n]) < 0 {
			return nil, api.ErrWord
		}
		l = append(l, word)
		line = line[n:]
	}
}

// bare reads the word that s begins with, which has no quotes, and tells how many bytes it has.
func bare(s string) (string, int, bool) {
	n := strings.IndexAny(s, blanks+`"`)
	if n < 0 {
		n = len(s)
	}
	return s[:n], n, true
}

// quoted reads the word in quotes that s begins with, and tells how many bytes it has with them.
func quoted(s string) (string, int, bool) {
	var word []byte
	for at := 1; at < len(s); {
		if s[at] == '"' {
			return string(word), at + 1, true
		}
		c, n, ok := readByte(s[at:])
		if !ok {
			return "", 0, false
		}
		word = append(word, c)
		at += n
	}
	return "", 0, false
}

// readByte reads the byte that s begins with, as it is or by a backslash, and tells how many bytes of s it has.
func readByte(s string) (byte, int, bool) {
	if s[0] != '\\' {
		return s[0], 1, true
	}
	if len(s) < 2 {
		return 0, 0, false
	}
	switch s[1] {
	case '\\', '"':
		return s[1], 2, true
	case 'n':
		return '\n', 2, true
	case 't':
		return '\t', 2, true
	case 'x':
		if len(s) < 4 {
			return 0, 0, false
		}
		high, low := strings.IndexByte(digits, s[2]), strings.IndexByte(digits, s[3])
		return byte(high<<4 | low), 4, high >= 0 && low >= 0
	}
	return 0, 0, false
}

// Quote writes bytes as one word.
func Quote(b []byte) string {
	out := []byte{'"'}
	for _, c := range b {
		switch {
		case c == '\n':
			out = append(out, `\n`...)
		case c == '\t':
			out = append(out, `\t`...)
		case c == '\\' || c == '"':
			out = append(out, '\\')
			fallthrough
		case c >= 32 && c <= 126:
			out = append(out, c)
		default:
			out = append(out, '\\', 'x', digits[c>>4], digits[c&15])
		}
	}
	return string(append(out, '"'))
}
