package dertype_test

import (
	"bytes"
	"math/big"
	"slices"
	"testing"

	"passepartout/api"
)

// laidAll are numbers' bytes, one behind the other.
func laidAll(all ...uint64) []byte {
	var b []byte
	for _, x := range all {
		b = append(b, laid(new(big.Int).SetUint64(x))...)
	}
	return b
}

func TestArcsExample(t *testing.T) {
	arcs(t, []byte{42, 134, 72, 134, 247, 13}, []uint64{1, 2, 840, 113549}, api.OK)
}

// P10.2: Arcs of no bytes, of every one, and of every two.
func TestArcsEveryTwo(t *testing.T) {
	for _, b := range [][]byte{nil, {}, []byte{42, 3}[:0]} {
		arcs(t, b, nil, api.ErrDer)
	}
	for first := range 256 {
		b := []byte{byte(first)}
		want, e := wantedArcs(b)
		arcs(t, b, want, e)
		for second := range 256 {
			b := []byte{byte(first), byte(second)}
			want, e := wantedArcs(b)
			arcs(t, b, want, e)
		}
	}
}

// P10.2: the first number is two, by 40 and 80; a later one is one.
func TestArcsFirst(t *testing.T) {
	for x, want := range map[uint64][]uint64{0: {0, 0}, 1: {0, 1}, 39: {0, 39}, 40: {1, 0}, 41: {1, 1}, 79: {1, 39}, 80: {2, 0}, 81: {2, 1}, 119: {2, 39}, 120: {2, 40}, 127: {2, 47}, 128: {2, 48}, 159: {2, 79}, 160: {2, 80}, 1<<63 - 1: {2, 1<<63 - 81}} {
		arcs(t, laidAll(x), want, api.OK)
		arcs(t, laidAll(x, x), append(slices.Clone(want), x), api.OK)
		arcs(t, laidAll(x, x, 0, x), append(slices.Clone(want), x, 0, x), api.OK)
	}
	for x := range uint64(2000) {
		want, e := wantedArcs(laidAll(x, 7))
		arcs(t, laidAll(x, 7), want, e)
	}
}

// bounds are numbers that need one to ten bytes, those at each edge, and much greater ones.
func bounds() []*big.Int {
	all := []*big.Int{big.NewInt(0), big.NewInt(1), big.NewInt(40), big.NewInt(80), big.NewInt(840), big.NewInt(113549)}
	for n := 7; n <= 77; n += 7 {
		all = append(all, plus(power(n), -1), power(n), plus(power(n), 1))
	}
	for _, n := range []int{31, 32, 62, 63, 64, 65, 69, 127, 128, 700, 6999} {
		all = append(all, plus(power(n), -1), power(n), plus(power(n), 1), plus(power(n), 85))
	}
	return all
}

// P10.2: numbers of every length as the first one, a later one, and the last one; those from 2^63 on are too great.
func TestArcsBounds(t *testing.T) {
	for _, x := range bounds() {
		b := laid(x)
		for _, ahead := range [][]byte{nil, {42}, {42, 134, 72}, laidAll(1<<63-1, 1<<63-1)} {
			for _, behind := range [][]byte{nil, {0}, {127}, {134, 72, 5}, laidAll(1<<63 - 1)} {
				all := slices.Concat(ahead, b, behind)
				want, e := wantedArcs(all)
				arcs(t, all, want, e)
				if tooGreat := x.Cmp(power(63)) >= 0; tooGreat != (e == api.ErrRange) {
					t.Fatalf("the test's own words are wrong of %v", x)
				}
			}
		}
	}
}

// P10.2: the greatest number that may be, and the next one: of the first one this is asked before it is made two.
func TestArcsRange(t *testing.T) {
	greatest := []byte{255, 255, 255, 255, 255, 255, 255, 255, 127}
	next := []byte{129, 128, 128, 128, 128, 128, 128, 128, 128, 0}
	arcs(t, greatest, []uint64{2, 1<<63 - 81}, api.OK)
	arcs(t, slices.Concat([]byte{42}, greatest), []uint64{1, 2, 1<<63 - 1}, api.OK)
	arcs(t, next, nil, api.ErrRange)
	arcs(t, slices.Concat([]byte{42}, next), nil, api.ErrRange)
	arcs(t, slices.Concat([]byte{42}, next, []byte{5}), nil, api.ErrRange)
	arcs(t, slices.Concat([]byte{42, 5}, next, greatest), nil, api.ErrRange)
	arcs(t, append(bytes.Repeat([]byte{255}, 9), 127), nil, api.ErrRange)
	arcs(t, append(bytes.Repeat([]byte{255}, 10000), 127), nil, api.ErrRange)
	arcs(t, []byte{130, 128, 128, 128, 128, 128, 128, 128, 128, 128, 5}, nil, api.ErrRange) // of 64 bits 5 would be left
}

// P10.2: a number with a 128 ahead, at the first byte and at each later one that begins a number; a 128 within one may stand.
func TestArcsPadded(t *testing.T) {
	arcs(t, []byte{128}, nil, api.ErrDer)
	arcs(t, []byte{128, 1}, nil, api.ErrDer)
	arcs(t, []byte{128, 128}, nil, api.ErrDer)
	arcs(t, []byte{128, 129, 1}, nil, api.ErrDer)
	arcs(t, []byte{42, 128}, nil, api.ErrDer)
	arcs(t, []byte{42, 128, 1}, nil, api.ErrDer)
	arcs(t, []byte{42, 128, 0}, nil, api.ErrDer)
	arcs(t, []byte{42, 129, 0, 128, 1}, nil, api.ErrDer)
	arcs(t, []byte{42, 129, 128, 0}, []uint64{1, 2, 16384}, api.OK)
	arcs(t, []byte{129, 128, 128, 0, 1}, []uint64{2, 1<<21 - 80, 1}, api.OK)
	b := laidAll(42, 840, 1<<63-1, 0, 127, 128, 16384, 5)
	for at := range b {
		with := slices.Insert(slices.Clone(b), at, 128)
		want, e := wantedArcs(with)
		arcs(t, with, want, e)
		if begins := at == 0 || b[at-1] < 128; begins != (e == api.ErrDer) {
			t.Fatalf("the test's own words are wrong of a 128 at %d", at)
		}
	}
}

// P10.2: every last byte, behind a whole number and within one.
func TestArcsLastByte(t *testing.T) {
	for last := range 256 {
		for _, ahead := range [][]byte{nil, {42}, {42, 134}, {42, 134, 72}, {255, 255}} {
			b := append(slices.Clone(ahead), byte(last))
			if last >= 128 {
				arcs(t, b, nil, api.ErrDer)
				continue
			}
			want, e := wantedArcs(b)
			arcs(t, b, want, e)
		}
	}
}

// P10.2: of two errors at a time ErrDer goes ahead: a number too great, and behind it, or ahead of it, what may not be.
func TestArcsTwoErrors(t *testing.T) {
	great := append(bytes.Repeat([]byte{255}, 12), 1)
	arcs(t, great, nil, api.ErrRange)
	arcs(t, append(slices.Clone(great), 134), nil, api.ErrDer)    // the last number isn't whole
	arcs(t, append(slices.Clone(great), 128, 1), nil, api.ErrDer) // a later one begins with 128
	arcs(t, slices.Concat([]byte{128}, great), nil, api.ErrDer)   // it begins with 128 itself
	arcs(t, slices.Concat([]byte{42, 128, 1}, great), nil, api.ErrDer)
	arcs(t, great[:12], nil, api.ErrDer) // it isn't whole itself
	arcs(t, slices.Concat(great, great, []byte{0, 255}), nil, api.ErrDer)
}

// P10.2: many numbers.
func TestArcsMany(t *testing.T) {
	want := []uint64{2, 5}
	all := []uint64{85}
	for i := range uint64(20000) {
		x := i * i * i * i
		want, all = append(want, x), append(all, x)
	}
	arcs(t, laidAll(all...), want, api.OK)
	arcs(t, make([]byte, 1<<16), make([]uint64, 1<<16+1), api.OK)
}
