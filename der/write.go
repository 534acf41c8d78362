package der

import (
	"slices"

	"passepartout/api"
	"passepartout/dertag"
)

// measure is how many bytes a thing has, its head too; or what is wrong with it.
func measure(n api.Node) (int, api.Errno) {
	// Asked ahead of all else: what isn't too deep doesn't hold itself either, so sizes comes to an end.
	if Depth(n) > api.MaxDepth {
		return 0, api.ErrDeep
	}
	// One list may stand in many places, so what its things come to together is kept.
	known := map[memory]int{}
	var sizes func(l []api.Node) (int, api.Errno)
	sizes = func(l []api.Node) (int, api.Errno) {
		sum, met := known[memoryOf(l)]
		if met {
			return sum, api.OK
		}
		for _, n := range l {
			if e := wrongAlone(n); e != api.OK {
				return 0, e
			}
			length, e := sizes(n.L)
			if e != api.OK {
				return 0, e
			}
			length += len(n.B)
			own, e := dertag.Put(head(n, length))
			if e != api.OK {
				return 0, e
			}
			sum += len(own) + length
		}
		known[memoryOf(l)] = sum
		return sum, api.OK
	}
	return sizes([]api.Node{n})
}

// wrongAlone is what is wrong with a thing, but for its length and what is wrong with those in it.
func wrongAlone(n api.Node) api.Errno {
	if e := dertag.Kind(n.Class, n.Tag, n.Made); e != api.OK {
		return e
	}
	if n.Made && len(n.B) > 0 || !n.Made && len(n.L) > 0 {
		return api.ErrForm
	}
	return wrongBytes(n.Class, n.Tag, n.Made, n.B)
}

// lay are the bytes of a right thing, of which there are so many.
func lay(n api.Node, size int) []byte {
	b := make([]byte, size)
	left := size // from here on they are laid
	put := func(piece []byte) {
		left -= len(piece)
		copy(b[left:], piece)
	}
	// From the last byte back, since a head tells how many stand behind it.
	var thing func(n api.Node)
	thing = func(n api.Node) {
		end := left
		put(n.B)
		for _, in := range slices.Backward(n.L) {
			thing(in)
		}
		own, _ := dertag.Put(head(n, end-left)) // a right thing's has no error
		put(own)
	}
	thing(n)
	return b
}
