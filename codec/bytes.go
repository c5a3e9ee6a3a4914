package codec

import "selvage/api"

// number puts the last n bytes of x behind b, the highest first.
func number(b []byte, x uint64, n int) []byte {
	for n--; n >= 0; n-- {
		b = append(b, byte(x>>(8*n)))
	}
	return b
}

// text puts a text of n behind b.
func text(b []byte, s string, n int) []byte {
	return append(number(b, uint64(len(s)), n), s...)
}

// reader goes through bytes; what comes first of what may not be is what failed, and behind it nothing is read.
type reader struct {
	b      []byte
	at     int
	failed api.Errno
}

func (r *reader) fail(e api.Errno) {
	if r.failed == api.OK {
		r.failed = e
	}
}

func (r *reader) ok() bool { return r.failed == api.OK }

// ended tells whether nothing is left.
func (r *reader) ended() bool { return r.at == len(r.b) }

// take tells the next n bytes.
func (r *reader) take(n int) []byte {
	if r.ok() && n > len(r.b)-r.at {
		r.fail(api.ErrCut)
	}
	if !r.ok() {
		return nil
	}
	r.at += n
	return r.b[r.at-n : r.at]
}

func (r *reader) rest() []byte { return r.take(len(r.b) - r.at) }

// number reads one of n bytes.
func (r *reader) number(n int) int {
	x := 0
	for _, c := range r.take(n) {
		x = x<<8 | int(c)
	}
	return x
}

func (r *reader) byte() byte { return byte(r.number(1)) }

func (r *reader) id() api.Id {
	var i api.Id
	copy(i[:], r.take(len(i)))
	return i
}

// text reads a text of n that has at most so many bytes.
func (r *reader) text(n, most int) string {
	length := r.number(n)
	if length > most {
		r.fail(api.ErrLong)
	}
	return string(r.take(length))
}

// end asks that nothing is left.
func (r *reader) end() {
	if !r.ended() {
		r.fail(api.ErrMore)
	}
}
