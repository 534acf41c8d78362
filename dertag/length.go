package dertag

import "passepartout/api"

const (
	long       = 128 // a length's first byte from this on tells how many bytes follow; below it, the length
	mostFollow = 3
)

// readLength is the length behind a head's first byte, and the place behind it; with an error the place of that.
func readLength(b []byte) (int, int, api.Errno) {
	if len(b) == 1 {
		return 0, 1, api.ErrShort
	}
	if b[1] < long {
		return int(b[1]), 2, api.OK
	}
	follow := int(b[1] - long)
	if follow == 0 || follow > mostFollow {
		return 0, 1, api.ErrDer
	}
	end := 2 + follow
	if len(b) < end {
		return 0, len(b), api.ErrShort
	}
	length := 0
	for _, x := range b[2:end] {
		length = length<<8 | int(x)
	}
	if follow > needed(length) {
		return 0, 1, api.ErrDer
	}
	return length, end, api.OK
}

// appendLength lays a length behind bytes.
func appendLength(b []byte, length int) []byte {
	follow := needed(length)
	if follow == 0 {
		return append(b, byte(length))
	}
	b = append(b, byte(long+follow))
	for i := range follow {
		b = append(b, byte(length>>(8*(follow-1-i))))
	}
	return b
}

// needed is how many bytes follow a length's first one: none, if that tells it alone.
func needed(length int) int {
	if length < long {
		return 0
	}
	follow := 1
	for length>>(8*follow) > 0 {
		follow++
	}
	return follow
}
