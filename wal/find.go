package wal

import "almoner/api"

// find takes in what lies on the disk. Where that is broken nothing is changed: so all is scanned ahead of the first change.
func (l *Log) find() api.Errno {
	if !l.scan() {
		return api.EBROKEN
	}
	if len(l.segments) == 0 {
		return l.begin()
	}
	return l.settle()
}

// scan reads the segments and notes their frames, up to where the open one is torn; false, if something is broken.
func (l *Log) scan() bool {
	var rest []byte // of a segment, what is not read yet
	var there bool
	var size int
	var is state
segment:
	rest, there = l.load(len(l.segments))
	if !there {
		return true
	}
	l.segments = append(l.segments, 0)
frame:
	if len(rest) == 0 {
		goto segment
	}
	size, is = look(rest, l.size-headSize)
	if is == whole {
		l.note(size)
		rest = rest[headSize+size:]
		goto frame
	}
	if is == broken {
		return false
	}
	_, there = l.load(len(l.segments)) // if there is one more, this one is not open
	return !there
}

// load tells the bytes of a segment, if there is one of that number.
func (l *Log) load(number int) ([]byte, bool) {
	name := l.file(number)
	size, errno := l.disk.Size(name)
	if errno != api.OK {
		return nil, false
	}
	b, errno := l.disk.Read(name, 0, size)
	return b, errno == api.OK
}

// settle cuts off what is torn (nothing, if the open segment ends with a frame), and makes all payloads safe. A log syncs its full segments itself; but one whose next segment was laid by another hand may lie there unsynced.
func (l *Log) settle() api.Errno {
	open := l.open()
	errno := l.disk.Cut(l.file(open), l.segments[open])
	for i := 0; i <= open && errno == api.OK; i++ {
		errno = l.disk.Sync(l.file(i))
	}
	return errno
}
