package pack

import "groupage/api"

const (
	longestNumber = 10             // bytes
	mostFolded    = 2 * mostNumber // the u of the greatest number, above those of all others
)

// fault is what a reader panics with: of a type of its own, so that no other panic is taken for it.
type fault struct {
	errno api.Errno
}

// reader takes values from bytes, from the first on, and panics with a fault where there is none.
type reader struct {
	bytes []byte
	at    int
}

// readAll tells all values of bytes, or the fault that a reader met first.
func readAll(letters string, often bool, b []byte) (l []Value, e api.Errno) {
	defer func() {
		thrown := recover()
		if f, ok := thrown.(fault); ok {
			l, e = nil, f.errno
		} else if thrown != nil {
			panic(thrown) // no fault of the bytes: it isn't this function's to hide
		}
	}()
	r := &reader{bytes: b}
	if often {
		for !r.atEnd() {
			l = r.appendOnce(l, letters)
		}
	} else {
		l = r.appendOnce(l, letters)
	}
	if !r.atEnd() {
		panic(fault{api.ErrForm})
	}
	if len(l) > mostValues {
		panic(fault{api.ErrFull})
	}
	return l, api.OK
}

// atEnd tells whether no byte is left.
func (r *reader) atEnd() bool {
	return r.at == len(r.bytes)
}

// take takes the next n bytes.
func (r *reader) take(n int) []byte {
	if n > len(r.bytes)-r.at {
		panic(fault{api.ErrShort})
	}
	taken := r.bytes[r.at : r.at+n]
	r.at += n
	return taken
}

// appendOnce lays a value of each letter behind l.
func (r *reader) appendOnce(l []Value, letters string) []Value {
	for i := range len(letters) {
		if letters[i] == 'n' {
			l = append(l, Number(r.number()))
		} else {
			l = append(l, Text(r.text()))
		}
	}
	return l
}

// number takes a number.
func (r *reader) number() int64 {
	u := r.folded()
	if u%2 == 1 {
		return -1 - int64(u/2)
	}
	return int64(u / 2)
}

// folded takes a number's u.
func (r *reader) folded() uint64 {
	u := uint64(0)
	for i := range longestNumber {
		c := r.take(1)[0]
		u |= uint64(c%128) << (7 * i)
		if c >= 128 {
			continue
		}
		needless := c == 0 && i > 0
		// Of the tenth byte only the lowest bit has room in u.
		wrapped := c > 1 && i == longestNumber-1
		if needless || wrapped || u > mostFolded {
			panic(fault{api.ErrForm})
		}
		return u
	}
	panic(fault{api.ErrForm})
}

// text takes a text.
func (r *reader) text() string {
	length := r.number()
	if length < 0 || length > mostText {
		panic(fault{api.ErrForm})
	}
	return string(r.take(int(length)))
}
