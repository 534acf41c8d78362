package dertype

const (
	arcBits = 7            // of a number that is laid in an identifier's bytes, in each of them
	more    = 1 << arcBits // a byte from this on isn't its number's last one
	mostArc = 1<<63 - 1
)

// isIdentifier asks whether bytes are an identifier's: whole numbers, none of which begins with a byte that it doesn't need.
func isIdentifier(b []byte) bool {
	begins := true
	for _, part := range b {
		if begins && part == more {
			return false
		}
		begins = part < more
	}
	return len(b) > 0 && begins
}

// appendArc lays a number behind an identifier's; the first one holds two.
func appendArc(arcs []uint64, x uint64) []uint64 {
	if len(arcs) > 0 {
		return append(arcs, x)
	}
	top := min(x/40, 2)
	return append(arcs, top, x-40*top)
}
