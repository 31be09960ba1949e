package layout

import (
	"strconv"

	"cairn/api"
	"cairn/fault"
)

// listing is a manifest that is being read.
type listing struct {
	text  []byte
	place int // of the text in the shard
	at    int // how many bytes of the text are read
	names []string
	sizes []int
	total int // of the sizes
}

// wrong is the fault of a manifest, so many bytes behind what is read.
func (l *listing) wrong(ahead int) error {
	return fault.At(api.ErrManifest, l.place+l.at+ahead)
}

// read reads the whole text, which has room for the number of blobs at least.
func (l *listing) read() error {
	count := readNumber(l.text[:besideBlobs])
	if count > api.MaxBlobs {
		return l.wrong(0)
	}
	l.at = besideBlobs
	for i := range int(count) {
		if err := l.readBlob(); err != nil {
			return fault.Within("blob "+strconv.Itoa(i), err)
		}
	}
	if l.at < len(l.text) {
		return l.wrong(0)
	}
	return nil
}

func (l *listing) readBlob() error {
	length, ok := l.nameLength()
	if !ok {
		return l.wrong(0)
	}
	blob := l.text[l.at : l.at+length+besideName]
	name := string(blob[2 : 2+length])
	if len(l.names) > 0 && name <= l.names[len(l.names)-1] {
		return l.wrong(2)
	}
	size := readNumber(blob[2+length:])
	if size > uint64(api.MaxTotal-l.total) {
		return l.wrong(2 + length)
	}
	l.names = append(l.names, name)
	l.sizes = append(l.sizes, int(size))
	l.total += int(size)
	l.at += len(blob)
	return nil
}

// nameLength gives how many bytes the next blob's name has, or false if it may not have so many, or the blob has no room.
func (l *listing) nameLength() (int, bool) {
	rest := l.text[l.at:]
	if len(rest) < besideName {
		return 0, false
	}
	length := int(readNumber(rest[:2]))
	return length, 1 <= length && length <= api.MaxName && length+besideName <= len(rest)
}
