// Package cursor is layer 1: see shared/doc/01-cursor.md.
package cursor

import "passepartout/api"

// Cursor goes through bytes.
type Cursor struct {
	rest []byte // only what is ahead: what is behind is never asked for again
	at   int
}

// New is one at the beginning of some bytes, the first of which is at a place.
func New(b []byte, base int) *Cursor {
	return &Cursor{rest: b, at: base}
}

// At is its place.
func (c *Cursor) At() int {
	if c == nil {
		return 0
	}
	return c.at
}

// End is the place behind the last byte.
func (c *Cursor) End() int {
	if c == nil {
		return 0
	}
	return c.at + len(c.rest)
}

// Left is how many bytes are ahead.
func (c *Cursor) Left() int {
	if c == nil {
		return 0
	}
	return len(c.rest)
}

// Number is the next one of so many bytes, the highest first.
func (c *Cursor) Number(size int) (uint64, api.Errno) {
	if c == nil {
		return 0, api.ErrNil
	}
	if !isNumberSize(size) {
		return 0, api.ErrArg
	}
	b, e := c.pass(size)
	if e != api.OK {
		return 0, e
	}
	var x uint64
	for i := range size {
		x = x<<8 | uint64(b[i])
	}
	return x, api.OK
}

// Take are the next bytes.
func (c *Cursor) Take(n int) ([]byte, api.Errno) {
	b, e := c.pass(n)
	if e != api.OK {
		return nil, e
	}
	// Who asked may change the answer, and the cursor's bytes are somebody else's: so it is a copy.
	own := make([]byte, len(b))
	copy(own, b)
	return own, api.OK
}

// Sub goes through the next bytes on its own.
func (c *Cursor) Sub(n int) (*Cursor, api.Errno) {
	base := c.At()
	b, e := c.pass(n)
	if e != api.OK {
		return nil, e
	}
	return New(b, base), api.OK
}

// pass goes behind the next bytes and answers them, still shared with those that were handed in. All errors are found ahead of the first change: a refused call leaves the cursor where it was.
func (c *Cursor) pass(n int) ([]byte, api.Errno) {
	if c == nil {
		return nil, api.ErrNil
	}
	if n < 0 {
		return nil, api.ErrArg
	}
	if n > len(c.rest) {
		return nil, api.ErrShort
	}
	b := c.rest[:n]
	c.rest = c.rest[n:]
	c.at += n
	return b, api.OK
}

// isNumberSize asks whether numbers may have so many bytes.
func isNumberSize(size int) bool {
	switch size {
	case 1, 2, 3, 4, 8:
		return true
	}
	return false
}
