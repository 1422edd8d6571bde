// Package code is layer 1: numbers, bytes and texts as bytes of fixed widths, and read again strictly.
package code

import "undercroft/api"

const (
	mostText = 65535     // bytes that a text's number can tell
	mostRoom = 1<<31 - 1 // the document's bound: a greater room would only ask for memory that nobody has
)

// Writer lays numbers and bytes down.
type Writer struct {
	room int
	b    []byte
	err  api.Errno
}

// NewWriter is one for at most so many bytes.
func NewWriter(most int) *Writer {
	return &Writer{room: min(max(most, 0), mostRoom)}
}

// lay does what form says, while there is no error yet: the bytes that come next, or the error that stays.
func (w *Writer) lay(form func() ([]byte, api.Errno)) {
	if w.err != api.OK {
		return
	}
	b, e := form()
	if e == api.OK && len(b) > w.room-len(w.b) {
		e = api.ErrCodeRoom
	}
	if e != api.OK {
		w.err = e
		return
	}
	w.b = append(w.b, b...)
}

// number is n in so many bytes, the lowest first.
func number(n uint64, bytes int) []byte {
	b := make([]byte, bytes)
	for i := range b {
		b[i] = byte(n >> (8 * i))
	}
	return b
}

// Num lays a number down in so many bytes.
func (w *Writer) Num(n uint64, bytes int) {
	w.lay(func() ([]byte, api.Errno) {
		if bytes < 1 || bytes > 8 {
			return nil, api.ErrArg
		}
		if bytes < 8 && n>>(8*bytes) != 0 {
			return nil, api.ErrCodeBig
		}
		return number(n, bytes), api.OK
	})
}

// Bytes lays bytes down as they are.
func (w *Writer) Bytes(b []byte) {
	w.lay(func() ([]byte, api.Errno) { return b, api.OK })
}

// Text lays a text down, its length ahead.
func (w *Writer) Text(s string) {
	w.lay(func() ([]byte, api.Errno) {
		if len(s) > mostText {
			return nil, api.ErrCodeBig
		}
		return append(number(uint64(len(s)), 2), s...), api.OK
	})
}

// Pad lays noughts down, up to so many bytes in all.
func (w *Writer) Pad(to int) {
	w.lay(func() ([]byte, api.Errno) {
		if to < len(w.b) {
			return nil, api.ErrCodeBig
		}
		if to > w.room { // ahead of making so many noughts
			return nil, api.ErrCodeRoom
		}
		return make([]byte, to-len(w.b)), api.OK
	})
}

// Done is what was laid down, or the first error.
func (w *Writer) Done() ([]byte, api.Errno) {
	if w.err != api.OK {
		return nil, w.err
	}
	b := make([]byte, len(w.b))
	copy(b, w.b)
	return b, api.OK
}

// Reader takes them up again.
type Reader struct {
	b   []byte
	at  int
	err api.Errno
}

// NewReader is one over a copy of these bytes.
func NewReader(b []byte) *Reader {
	own := make([]byte, len(b))
	copy(own, b)
	return &Reader{b: own}
}

// take does what form says, while there is no error yet: how many bytes it took up, or the error that stays.
func (r *Reader) take(form func(left []byte) (int, api.Errno)) {
	if r.err != api.OK {
		return
	}
	n, e := form(r.b[r.at:])
	if e != api.OK {
		r.err = e
		return
	}
	r.at += n
}

// value is the number that stands in bytes, the lowest first.
func value(b []byte) uint64 {
	var n uint64
	for i, x := range b {
		n |= uint64(x) << (8 * i)
	}
	return n
}

// Num takes up a number of so many bytes.
func (r *Reader) Num(bytes int) uint64 {
	var n uint64
	r.take(func(left []byte) (int, api.Errno) {
		if bytes < 1 || bytes > 8 {
			return 0, api.ErrArg
		}
		if len(left) < bytes {
			return 0, api.ErrCodeShort
		}
		n = value(left[:bytes])
		return bytes, api.OK
	})
	return n
}

// Bytes takes up so many bytes.
func (r *Reader) Bytes(n int) []byte {
	var b []byte
	r.take(func(left []byte) (int, api.Errno) {
		if n < 0 {
			return 0, api.ErrArg
		}
		if len(left) < n {
			return 0, api.ErrCodeShort
		}
		if n > 0 { // of none nothing, not an empty list
			b = make([]byte, n)
			copy(b, left)
		}
		return n, api.OK
	})
	return b
}

// Text takes up a text of at most so many bytes.
func (r *Reader) Text(most int) string {
	var s string
	r.take(func(left []byte) (int, api.Errno) {
		if len(left) < 2 {
			return 0, api.ErrCodeShort
		}
		n := int(value(left[:2]))
		if n > most {
			return 0, api.ErrCodeBig
		}
		if len(left) < 2+n {
			return 0, api.ErrCodeShort
		}
		s = string(left[2 : 2+n])
		return 2 + n, api.OK
	})
	return s
}

// Pad takes up noughts, up to so many bytes in all.
func (r *Reader) Pad(to int) {
	r.take(func(left []byte) (int, api.Errno) {
		if to < r.at {
			return 0, api.ErrCodeBig
		}
		if to > len(r.b) {
			return 0, api.ErrCodeShort
		}
		for _, x := range left[:to-r.at] {
			if x != 0 {
				return 0, api.ErrCodePad
			}
		}
		return to - r.at, api.OK
	})
}

// Left is how many bytes are left.
func (r *Reader) Left() int { return len(r.b) - r.at }

// Done is the first error; bytes that are left are one.
func (r *Reader) Done() api.Errno {
	if r.err == api.OK && r.Left() > 0 {
		return api.ErrCodeMore
	}
	return r.err
}
