package dertype_test

import (
	"math"
	"math/big"
	"testing"

	"passepartout/api"
)

// P10.2: Number of no bytes.
func TestNumberNoBytes(t *testing.T) {
	for _, b := range [][]byte{nil, {}, []byte{5, 6}[:0]} {
		numbers(t, b, 0, api.ErrDer)
	}
}

// P10.2: every number of one byte, and of two.
func TestNumberEveryTwo(t *testing.T) {
	for x := range 256 {
		numbers(t, []byte{byte(x)}, int64(int8(x)), api.OK)
	}
	for x := range 1 << 16 {
		b := []byte{byte(x >> 8), byte(x)}
		y := int64(int16(x))
		if y >= -128 && y <= 127 {
			numbers(t, b, 0, api.ErrDer)
		} else {
			numbers(t, b, y, api.OK)
		}
	}
}

// edges are numbers that need just n bytes: the least and the greatest of each sign, those next to them, and some between.
func edges(n int) []*big.Int {
	if n == 1 {
		return []*big.Int{big.NewInt(-128), big.NewInt(-127), big.NewInt(-1), big.NewInt(0), big.NewInt(1), big.NewInt(126), big.NewInt(127)}
	}
	low, high := power(8*(n-1)-1), power(8*n-1)
	var all []*big.Int
	for _, x := range []*big.Int{low, plus(low, 1), plus(low, 127), plus(low, 128), power(8 * (n - 1)), plus(power(8*(n-1)), -1), plus(high, -2), plus(high, -1)} {
		minus := new(big.Int).Neg(plus(x, 1)) // of the highest number above 0 the lowest one below
		all = append(all, x, minus)
	}
	return all
}

// P10.2: numbers of one to nine bytes, of both signs, in as many bytes as they need, and in one more, two more, and nine more.
func TestNumberLengths(t *testing.T) {
	for n := 1; n <= 9; n++ {
		for _, x := range edges(n) {
			b := inBytes(x, n)
			if len(complement(x)) != n {
				t.Fatalf("the test's own %v needs another length than %d", x, n)
			}
			if n <= 8 {
				numbers(t, b, x.Int64(), api.OK)
			} else {
				numbers(t, b, 0, api.ErrLength)
			}
			for _, more := range []int{1, 2, 9} {
				numbers(t, inBytes(x, n+more), 0, api.ErrDer)
			}
		}
	}
}

// P10.2: the least and the greatest number of eight bytes, and those next to them, that have nine.
func TestNumberBounds(t *testing.T) {
	numbers(t, []byte{128, 0, 0, 0, 0, 0, 0, 0}, math.MinInt64, api.OK)
	numbers(t, []byte{128, 0, 0, 0, 0, 0, 0, 1}, math.MinInt64+1, api.OK)
	numbers(t, []byte{127, 255, 255, 255, 255, 255, 255, 254}, math.MaxInt64-1, api.OK)
	numbers(t, []byte{127, 255, 255, 255, 255, 255, 255, 255}, math.MaxInt64, api.OK)
	numbers(t, []byte{0, 128, 0, 0, 0, 0, 0, 0, 0}, 0, api.ErrLength)
	numbers(t, []byte{255, 127, 255, 255, 255, 255, 255, 255, 255}, 0, api.ErrLength)
	numbers(t, []byte{1, 2, 3, 4, 5, 6, 7, 8}, 0x0102030405060708, api.OK)
	numbers(t, []byte{254, 2, 3, 4, 5, 6, 7, 8}, -0x01fdfcfbfaf9f8f8, api.OK)
	numbers(t, append([]byte{1}, make([]byte, 1000)...), 0, api.ErrLength)
	numbers(t, append([]byte{128}, make([]byte, 1000)...), 0, api.ErrLength)
}

// P10.2: of two errors at a time ErrDer goes ahead: more bytes than are needed, and more than eight.
func TestNumberTwoErrors(t *testing.T) {
	numbers(t, make([]byte, 9), 0, api.ErrDer)
	numbers(t, []byte{0, 127, 0, 0, 0, 0, 0, 0, 0}, 0, api.ErrDer)
	numbers(t, []byte{255, 128, 0, 0, 0, 0, 0, 0, 0}, 0, api.ErrDer)
	numbers(t, []byte{255, 255, 255, 255, 255, 255, 255, 255, 255}, 0, api.ErrDer)
	numbers(t, make([]byte, 1000), 0, api.ErrDer)
}

// P10.1 and P10.2: every first two bytes of numbers of up to ten.
func TestNumberEveryBegin(t *testing.T) {
	for _, n := range []int{3, 8, 9, 10} {
		for x := range 1 << 16 {
			b := make([]byte, n)
			b[0], b[1], b[n-1] = byte(x>>8), byte(x), 9
			switch {
			case !mayBe(2, b):
				numbers(t, b, 0, api.ErrDer)
			case n > 8:
				numbers(t, b, 0, api.ErrLength)
			default:
				numbers(t, b, signed(b).Int64(), api.OK)
			}
		}
	}
}

func TestNumberExamples(t *testing.T) {
	numbers(t, []byte{0, 128}, 128, api.OK)
	numbers(t, []byte{255, 127}, -129, api.OK)
	numbers(t, []byte{255, 128}, 0, api.ErrDer)
}
