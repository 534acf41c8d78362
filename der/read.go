package der

import (
	"bytes"

	"passepartout/api"
	"passepartout/dertag"
)

// readWhole is Read of bytes the first of which is at the place 0.
func readWhole(b []byte) (api.Node, int, api.Errno) {
	// thing reads the thing that begins at a place, in bytes up to an end, and tells the place behind it, or its error's.
	var thing func(at, end, deep int) (api.Node, int, api.Errno)
	thing = func(at, end, deep int) (api.Node, int, api.Errno) {
		if deep > api.MaxDepth {
			return api.Node{}, at, api.ErrDeep
		}
		h, next, e := readHead(b[:end], at)
		if e != api.OK {
			return api.Node{}, next, e
		}
		n := api.Node{Class: h.Class, Tag: h.Tag, Made: h.Made}
		behind := next + h.Len
		if !h.Made {
			n.B = bytes.Clone(b[next:behind])
			return n, behind, api.OK
		}
		for next < behind {
			var in api.Node
			if in, next, e = thing(next, behind, deep+1); e != api.OK {
				return api.Node{}, next, e
			}
			n.L = append(n.L, in)
		}
		return n, behind, api.OK
	}
	n, behind, e := thing(0, len(b), 1)
	if e == api.OK && behind < len(b) {
		return api.Node{}, behind, api.ErrTrail
	}
	return n, behind, e
}

// readHead is the head of the thing that begins at a place, and the place behind it; or what is wrong with the thing but for those in it, and where. The bytes are those up to the end of what it is in.
func readHead(b []byte, at int) (dertag.Head, int, api.Errno) {
	h, n, e := dertag.Read(b[at:])
	first := at + n
	if e != api.OK {
		return dertag.Head{}, first, e
	}
	if h.Len > len(b)-first {
		return dertag.Head{}, len(b), api.ErrShort
	}
	if e := wrongBytes(h.Class, h.Tag, h.Made, b[first:first+h.Len]); e != api.OK {
		return dertag.Head{}, first, e
	}
	return h, first, api.OK
}
