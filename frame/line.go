package frame

import (
	"undercroft/api"
	"undercroft/code"
)

// Line is bytes that come in pieces.
type Line struct {
	waits []byte
}

// New has none.
func New() *Line { return &Line{} }

// Feed takes bytes: the frames that are whole.
func (l *Line) Feed(b []byte) ([][]byte, api.Errno) {
	l.waits = append(l.waits, b...)
	var frames [][]byte
	for len(l.waits) >= lengthLen {
		n := int(code.NewReader(l.waits[:lengthLen]).Num(lengthLen))
		if n < least-lengthLen || n > api.MaxFrame-lengthLen {
			l.waits = nil
			return frames, api.ErrFrame
		}
		end := lengthLen + n
		if len(l.waits) < end {
			break
		}
		frames = append(frames, append([]byte(nil), l.waits[:end]...))
		l.waits = l.waits[end:]
	}
	return frames, api.OK
}

// Left is how many bytes wait.
func (l *Line) Left() int { return len(l.waits) }
