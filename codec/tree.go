package codec

import "selvage/api"

// EncodeTree tells the bytes of a tree's body.
func EncodeTree(l []api.Entry) ([]byte, api.Errno) {
	if len(l) > api.MaxEntries {
		return nil, api.ErrMany
	}
	var b []byte
	for k, x := range l {
		if e := checkEntry(x, l[:k]); e != api.OK {
			return nil, e
		}
		b = append(b, byte(x.Kind))
		b = text(b, x.Name, 1)
		b = append(b, x.Id[:]...)
	}
	return b, api.OK
}

// checkEntry tells why an entry may not stand behind those ahead.
func checkEntry(x api.Entry, ahead []api.Entry) api.Errno {
	switch {
	case x.Kind < api.KFile || x.Kind > api.KTree:
		return api.ErrKind
	case !Name(x.Name):
		return api.ErrName
	case x.Id == api.Id{}:
		return api.ErrArg
	case len(ahead) > 0 && x.Name <= ahead[len(ahead)-1].Name:
		return api.ErrOrder
	}
	return api.OK
}

// ParseTree reads what EncodeTree tells.
func ParseTree(b []byte) ([]api.Entry, api.Errno) {
	r := &treeReader{reader: reader{b: b}}
	for !r.ended() {
		r.entry()
		if !r.ok() {
			return nil, r.failed
		}
	}
	return r.entries, api.OK
}

type treeReader struct {
	reader
	entries []api.Entry
}

func (r *treeReader) entry() {
	var x api.Entry
	x.Kind = int(r.byte())
	x.Name = string(r.take(r.number(1)))
	x.Id = r.id()
	if len(r.entries) == api.MaxEntries {
		r.fail(api.ErrMany)
	}
	r.fail(checkEntry(x, r.entries))
	r.entries = append(r.entries, x)
}
