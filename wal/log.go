package wal

import (
	"selvage/api"
	"selvage/simfs"
)

// Log is a journal on a disk.
type Log struct {
	disk  *simfs.FS
	path  string
	bytes []byte // the journal's, as far as its records go
	count int
	torn  bool // the file may hold other bytes than these
}

// Open reads a journal, or makes one without records.
func Open(f *simfs.FS, path string) (*Log, [][]byte, api.Errno) {
	if !simfs.Name(path) || !simfs.Name(path+".new") {
		return nil, nil, api.ErrName
	}
	l := &Log{disk: f, path: path}
	b, e := f.Read(path)
	if e == api.ErrNone {
		if e = l.Checkpoint(); e != api.OK {
			return nil, nil, e
		}
		return l, nil, api.OK
	}
	if e != api.OK {
		return nil, nil, e
	}
	records, n, e := Parse(b)
	if e != api.OK {
		return nil, nil, e
	}
	l.bytes, l.count = b[:n:n], len(records)
	if n < len(b) {
		if e = l.remake(l.bytes); e != api.OK {
			return nil, nil, e
		}
	}
	return l, records, api.OK
}

// Append puts a record behind the others.
func (l *Log) Append(record []byte) api.Errno {
	if len(record) > api.MaxRecord {
		return api.ErrLong
	}
	if l.torn {
		if e := l.remake(l.bytes); e != api.OK {
			return e
		}
	}
	b := unmarked(l.count, record)
	l.torn = true
	if e := l.lay(b); e != api.OK {
		return e
	}
	// The mark is laid behind bytes that stay: where it stands, they do.
	if e := l.lay([]byte{mark}); e != api.OK {
		return e
	}
	l.torn = false
	l.bytes = append(append(l.bytes, b...), mark)
	l.count++
	return api.OK
}

func (l *Log) lay(b []byte) api.Errno {
	if e := l.disk.Append(l.path, b); e != api.OK {
		return e
	}
	return l.disk.Sync(l.path)
}

// Checkpoint makes these all of its records.
func (l *Log) Checkpoint(records ...[]byte) api.Errno {
	for _, record := range records {
		if len(record) > api.MaxRecord {
			return api.ErrLong
		}
	}
	b := Encode(records...)
	if e := l.remake(b); e != api.OK {
		return e
	}
	l.bytes, l.count = b, len(records)
	return api.OK
}

// remake lays a whole journal in the place of the one that is there.
func (l *Log) remake(b []byte) api.Errno {
	beside := l.path + ".new"
	if e := l.disk.Write(beside, b); e != api.OK {
		return e
	}
	if e := l.disk.Sync(beside); e != api.OK {
		return e
	}
	if e := l.disk.Rename(beside, l.path); e != api.OK {
		return e
	}
	// Till its directory is synced nobody knows which of both journals a crash leaves.
	l.torn = true
	if e := l.disk.SyncDir(simfs.Dir(l.path)); e != api.OK {
		return e
	}
	l.torn = false
	return api.OK
}

// Count tells how many records it has.
func (l *Log) Count() int { return l.count }
