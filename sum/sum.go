// Package sum: the sums by which objects are known. See doc/01-sum.md.
package sum

import (
	"bytes"

	"selvage/api"
)

const digits = "0123456789abcdef"

// Of is the SHA-256 of rows, one behind the other.
func Of(l ...[]byte) api.Id {
	h := New()
	h.Write(l...)
	return h.Sum()
}

// Hex tells an Id as 64 digits.
func Hex(i api.Id) string {
	var out [2 * len(i)]byte
	for k, b := range i {
		out[2*k] = digits[b>>4]
		out[2*k+1] = digits[b&15]
	}
	return string(out[:])
}

// Parse reads what Hex tells.
func Parse(s string) (api.Id, api.Errno) {
	var i api.Id
	if len(s) != 2*len(i) {
		return api.Id{}, api.ErrArg
	}
	for k := range i {
		high, ok1 := digit(s[2*k])
		low, ok2 := digit(s[2*k+1])
		if !ok1 || !ok2 {
			return api.Id{}, api.ErrArg
		}
		i[k] = high<<4 | low
	}
	return i, api.OK
}

// digit reads one; capitals are none, so that an Id has one text only.
func digit(c byte) (byte, bool) {
	switch {
	case c >= '0' && c <= '9':
		return c - '0', true
	case c >= 'a' && c <= 'f':
		return c - 'a' + 10, true
	}
	return 0, false
}

// Less tells whether a is ahead of b, byte by byte.
func Less(a, b api.Id) bool {
	return bytes.Compare(a[:], b[:]) < 0
}
