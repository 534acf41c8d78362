package dertype_test

import (
	"slices"
	"testing"

	"passepartout/api"
)

// P10.2: every first byte, without others: only a 0 may stand alone.
func TestBitsAlone(t *testing.T) {
	for _, b := range [][]byte{nil, {}, []byte{0, 0}[:0]} {
		bits(t, b, nil, 0, api.ErrDer)
	}
	bits(t, []byte{0}, nil, 0, api.OK)
	for first := 1; first < 256; first++ {
		bits(t, []byte{byte(first)}, nil, 0, api.ErrDer)
	}
}

// P10.2: every first byte, with others behind it that have no bit set, and with each bit of the last one set alone.
func TestBitsEveryBit(t *testing.T) {
	for first := range 256 {
		for _, between := range [][]byte{nil, {255}, {0, 255, 1}} {
			for bit := -1; bit < 8; bit++ {
				last := 0
				if bit >= 0 {
					last = 1 << bit
				}
				some := append(slices.Clone(between), byte(last))
				b := slices.Concat([]byte{byte(first)}, some)
				if first > 7 || bit >= 0 && bit < first {
					bits(t, b, nil, 0, api.ErrDer)
				} else {
					bits(t, b, some, first, api.OK)
				}
			}
		}
	}
}

// P10.2: every first byte with every last one.
func TestBitsEveryTwo(t *testing.T) {
	for first := range 256 {
		for last := range 256 {
			b := []byte{byte(first), 170, byte(last)}
			if isBits(b) {
				bits(t, b, b[1:], first, api.OK)
			} else {
				bits(t, b, nil, 0, api.ErrDer)
			}
		}
	}
}

// P10.2: of how many bits aren't used, the greatest number that may be, and the next one.
func TestBitsEdges(t *testing.T) {
	bits(t, []byte{7, 128}, []byte{128}, 7, api.OK)
	bits(t, []byte{7, 0}, []byte{0}, 7, api.OK)
	bits(t, []byte{7, 192}, nil, 0, api.ErrDer)
	bits(t, []byte{8, 0}, nil, 0, api.ErrDer)
	bits(t, []byte{8, 255, 0}, nil, 0, api.ErrDer)
	bits(t, []byte{255, 0}, nil, 0, api.ErrDer)
	bits(t, []byte{0, 255}, []byte{255}, 0, api.OK)
	bits(t, []byte{1, 255, 254}, []byte{255, 254}, 1, api.OK)
	bits(t, []byte{1, 254, 255}, nil, 0, api.ErrDer) // the last byte is asked, not the first one
	many := make([]byte, 1<<17)
	bits(t, append([]byte{7}, many...), many, 7, api.OK)
}
