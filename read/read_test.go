package read_test

import (
	"bytes"
	"math"
	"slices"
	"testing"

	"passepartout/api"
	"passepartout/layout"
	"passepartout/read"
	"passepartout/value"
)

func TestExamplesOfTheChapter(t *testing.T) {
	f := layout.Row(layout.Number(1), layout.Opaque(1, 1, 3))
	reads(t, f, some(7, 2, 8, 9), value.List(value.Number(7), value.Bytes(8, 9)))
	fails(t, f, some(7, 4, 8), 1, api.ErrLength)
	fails(t, f, some(7, 2, 8), 3, api.ErrShort)
	fails(t, f, some(7, 1, 8, 9), 3, api.ErrTrail)
}

// P6.1: the form's error goes ahead of all that is wrong with bytes, at the place base.
func TestWrongForms(t *testing.T) {
	for _, w := range wrongForms() {
		if e := layout.Check(w.f); e != w.e {
			t.Fatalf("%v isn't such a form: %v", w.f, e)
		}
		for _, b := range [][]byte{nil, some(0), some(1), some(1, 9), some(9, 9, 9), make([]byte, 40)} {
			fails(t, w.f, b, 0, w.e)

			// As a part it is told ahead, too, even if there are no bytes for it, or others are wrong ahead of it.
			if w.e != api.ErrDeep {
				fails(t, layout.Row(layout.Number(8), w.f), b, 0, w.e)
				fails(t, layout.Row(layout.Opaque(1, 7, 7), layout.Row(w.f)), b, 0, w.e)
				fails(t, layout.List(1, 0, 99, 1, w.f), b, 0, w.e)
			}
		}
	}
}

// P1: a form that holds itself is refused, too.
func TestAFormWithinItself(t *testing.T) {
	row := api.Form{Kind: api.Row, Parts: make([]api.Form, 2)}
	row.Parts[0], row.Parts[1] = row, row
	list := api.Form{Kind: api.List, Size: 1, Hi: 9, Step: 1, Parts: make([]api.Form, 1)}
	list.Parts[0] = list
	for _, f := range []api.Form{row, list} {
		for _, b := range [][]byte{nil, some(0), some(3, 2, 1, 0)} {
			x := newTally(t, 100)
			for i, a := range []answer{got(read.Read(f, b, 40)), got(read.Prefix(f, b, 40)), got(read.Counted(x, f, b, 40))} {
				// The form isn't told: it would have no end.
				if !a.is(answer{e: api.ErrDeep}, 40) || x.Count() != 0 {
					t.Errorf("call %d of %v: %v, Count %d", i, b, a, x.Count())
				}
			}
		}
	}
}

// P6.1: a form of the greatest depth is read.
func TestDeepestForms(t *testing.T) {
	v := value.Number(5)
	for range 7 {
		v = value.List(v)
	}
	reads(t, inRows(layout.Number(1), 7), some(5), v)
	fails(t, inRows(layout.Number(1), 7), nil, 0, api.ErrShort)
	f, b := layout.Number(1), some(5)
	for n := range 7 {
		f = layout.List(1, 0, 99, 1, f)
		b = slices.Concat(some(byte(n+1)), b)
	}
	reads(t, f, b, v)
	fails(t, f, append(b, 5), 8, api.ErrTrail)

	// The number is asked for two bytes, of which the list has one; what stands behind the list is none of its bytes.
	f, b = layout.Number(2), some(5)
	for n := range 7 {
		f = layout.List(1, 0, 99, 1, f)
		b = slices.Concat(some(byte(n+1)), b)
	}
	fails(t, f, append(b, 5, 5, 5), 8, api.ErrShort)
}

// P6.1: a Number of each Size, the highest byte first.
func TestNumber(t *testing.T) {
	for size, want := range map[int]uint64{1: 1, 2: 0x102, 3: 0x10203, 4: 0x1020304, 8: 0x102030405060708} {
		f := layout.Number(size)
		reads(t, f, numbered(size), value.Number(want))
		reads(t, f, make([]byte, size), value.Number(0))
		reads(t, f, bytes.Repeat(some(255), size), value.Number(math.MaxUint64>>(64-8*size)))
		for n := range size {
			fails(t, f, numbered(n), n, api.ErrShort)
		}
		fails(t, f, numbered(size+1), size, api.ErrTrail)
		fails(t, f, numbered(size+9), size, api.ErrTrail)
	}
	reads(t, layout.Number(8), some(128, 0, 0, 0, 0, 0, 0, 0), value.Number(1<<63))
}

// P6.1: bytes that end within an Opaque's length, just behind it, within its bytes, and just behind them.
func TestOpaqueEnds(t *testing.T) {
	for size := 1; size <= 3; size++ {
		f := layout.Opaque(size, 0, 255)
		for _, n := range []int{0, 1, 2, 3, 100, 255} {
			b := slices.Concat(digits(uint64(n), size), numbered(n))
			reads(t, f, b, value.Bytes(numbered(n)...))
			for cut := range b {
				fails(t, f, b[:cut], cut, api.ErrShort)
			}
			fails(t, f, append(b, 0), len(b), api.ErrTrail)
			fails(t, f, append(b, 0, 0), len(b), api.ErrTrail)
		}
	}
}

// P6.1: the lengths that an Opaque and a List may have, and one less, and one more: at the length's place, whether or not so many bytes are left.
func TestLengths(t *testing.T) {
	for _, c := range []struct{ lo, hi, step int }{{0, 0, 1}, {0, 3, 1}, {2, 2, 1}, {2, 5, 1}, {1, 9, 2}, {2, 8, 2}, {3, 9, 3}, {4, 5, 3}, {0, 9, 65536}, {1, 9, 65536}, {0, 255, 100}, {254, 255, 1}, {255, 255, 255}} {
		for size := 1; size <= 3; size++ {
			for n := range 256 {
				b := slices.Concat(digits(uint64(n), size), numbered(n))
				list, v := layout.List(size, c.lo, c.hi, c.step, layout.Number(1)), api.Value{}
				for _, x := range numbered(n) {
					v.L = append(v.L, value.Number(uint64(x)))
				}
				if c.lo <= n && n <= c.hi && n%c.step == 0 {
					reads(t, opaque(size, c.lo, c.hi, c.step), b, value.Bytes(numbered(n)...))
					reads(t, list, b, v)
					continue
				}
				for _, cut := range []int{len(b), len(b) - n, len(b) - n/2} {
					fails(t, opaque(size, c.lo, c.hi, c.step), b[:cut], 0, api.ErrLength)
					fails(t, list, b[:cut], 0, api.ErrLength)
				}
			}
		}
	}
}

// P6.1: all bytes of a length play a part, the highest first.
func TestGreatLengths(t *testing.T) {
	b := make([]byte, 3+1<<24)
	for _, c := range []struct{ size, n int }{{2, 256}, {2, 257}, {2, 65535}, {3, 256}, {3, 65536}, {3, 65793}, {3, 1<<24 - 1}} {
		copy(b, digits(uint64(c.n), c.size))
		whole := b[:c.size+c.n]
		f, list := layout.Opaque(c.size, c.n, c.n), layout.List(c.size, c.n, c.n, 1, layout.Fixed(c.n))
		reads(t, f, whole, value.Bytes(whole[c.size:]...))
		reads(t, list, whole, value.List(value.Bytes(whole[c.size:]...)))
		fails(t, f, whole[:len(whole)-1], len(whole)-1, api.ErrShort)
		fails(t, list, whole[:len(whole)-1], len(whole)-1, api.ErrShort)
		fails(t, f, b[:len(whole)+1], len(whole), api.ErrTrail)
		fails(t, layout.Opaque(c.size, 0, c.n-1), whole, 0, api.ErrLength)
		fails(t, layout.List(c.size, 0, c.n-1, 1, layout.Number(1)), whole, 0, api.ErrLength)
	}
	const most = 1<<24 - 1
	for _, f := range []api.Form{layout.Rest(0, most), layout.Rest(most, most), layout.Fixed(most)} {
		reads(t, f, b[:most], value.Bytes(b[:most]...))
		fails(t, f, b[:most+1], most, api.ErrTrail)
	}
	fails(t, layout.Rest(most, most), b[:most-1], most-1, api.ErrShort)
	fails(t, layout.Fixed(most), b[:most-1], most-1, api.ErrShort)
}

// P6.1: bytes that end within a List's length, just behind it, within its bytes, and just behind them.
func TestListEnds(t *testing.T) {
	f := layout.List(2, 0, 99, 1, layout.Number(2))
	b := some(0, 6, 1, 2, 3, 4, 5, 6)
	reads(t, f, b, value.List(value.Number(0x102), value.Number(0x304), value.Number(0x506)))
	reads(t, f, some(0, 0), value.List())
	for cut := range b {
		fails(t, f, b[:cut], cut, api.ErrShort)
	}
	fails(t, f, append(b, 7), 8, api.ErrTrail)
	fails(t, f, some(0, 0, 7), 2, api.ErrTrail)

	// A byte too many, or too few, in its own bytes: the number that it begins isn't whole.
	for n := 1; n < 9; n += 2 {
		own := slices.Concat(some(0, byte(n)), numbered(n))
		fails(t, f, own, 2+n, api.ErrShort)
		fails(t, f, append(own, 9, 9, 9), 2+n, api.ErrShort)
	}
}

// P6.1: what stands in a List ends where the List's bytes do, while b has more.
func TestBeyondAList(t *testing.T) {
	end, more := layout.Fixed(9), numbered(9)
	for _, c := range []struct {
		item api.Form
		own  []byte // of the List
		at   int
		e    api.Errno
	}{
		{layout.Number(2), some(1), 2, api.ErrShort},
		{layout.Number(8), some(1, 2, 3, 4, 5, 6, 7), 8, api.ErrShort},
		{layout.Number(1), nil, 0, api.OK},
		{layout.Opaque(2, 0, 9), some(0), 2, api.ErrShort},
		{layout.Opaque(1, 0, 9), some(1), 2, api.ErrShort},
		{layout.Opaque(1, 0, 9), some(0, 2, 7), 4, api.ErrShort},
		{layout.Opaque(1, 0, 1), some(2), 1, api.ErrLength},
		{layout.Fixed(3), some(1, 2), 3, api.ErrShort},
		{layout.Fixed(3), some(1, 2, 3, 4), 5, api.ErrShort},
		{layout.List(1, 0, 9, 1, layout.Number(1)), some(1), 2, api.ErrShort},
		{layout.List(2, 0, 9, 1, layout.Number(1)), some(0, 0, 0), 4, api.ErrShort},
		{layout.List(1, 0, 9, 1, layout.Number(2)), some(1, 1, 9), 3, api.ErrShort},
		{layout.List(1, 0, 9, 1, layout.Number(2)), some(3, 1, 9), 4, api.ErrShort},
		{layout.Row(layout.Number(1), layout.Number(1)), some(1, 2, 3), 4, api.ErrShort},
		{layout.Row(layout.Number(1), layout.Opaque(1, 0, 9)), some(1, 1), 3, api.ErrShort},
		{layout.Row(layout.List(1, 0, 9, 1, layout.Number(1)), layout.Number(1)), some(1, 5), 3, api.ErrShort},
	} {
		f := layout.Row(layout.List(1, 0, 99, 1, c.item), end)
		b := slices.Concat(some(byte(len(c.own))), c.own, more)
		if c.e == api.OK {
			reads(t, f, b, value.List(value.List(), value.Bytes(more...)))
			continue
		}
		fails(t, f, b, c.at, c.e)

		// In a List of Lists it is the innermost one's end.
		f = layout.List(1, 0, 99, 1, f)
		fails(t, f, slices.Concat(some(byte(len(b))), b, more), 1+c.at, c.e)
	}
}

// P6.1: a Rest of Lo, of Hi, and of one byte less and one more.
func TestRest(t *testing.T) {
	for _, span := range [][2]int{{0, 0}, {0, 1}, {1, 1}, {2, 5}, {0, 255}, {255, 300}} {
		lo, hi := span[0], span[1]
		for n := range 305 {
			b := numbered(n)
			ahead := slices.Concat(some(7, 8, 9), b)
			f, row := layout.Rest(lo, hi), layout.Row(layout.Number(1), layout.Row(layout.Fixed(2), layout.Rest(lo, hi)))
			switch {
			case n < lo:
				fails(t, f, b, n, api.ErrShort)
				fails(t, row, ahead, 3+n, api.ErrShort)
			case n > hi:
				fails(t, f, b, hi, api.ErrTrail)
				fails(t, row, ahead, 3+hi, api.ErrTrail)
			default:
				reads(t, f, b, value.Bytes(b...))
				reads(t, row, ahead, value.List(value.Number(7), value.List(value.Bytes(8, 9), value.Bytes(b...))))
			}
		}
	}
}

// P6.1: a Fixed has Lo bytes, whatever its Hi is.
func TestFixed(t *testing.T) {
	for _, n := range []int{0, 1, 2, 3, 100, 300} {
		for _, hi := range []int{0, n - 1, n + 1} {
			f := api.Form{Kind: api.Fixed, Lo: n, Hi: hi}
			reads(t, f, numbered(n), value.Bytes(numbered(n)...))
			for cut := range n {
				fails(t, f, numbered(cut), cut, api.ErrShort)
			}
			fails(t, f, numbered(n+1), n, api.ErrTrail)
		}
	}
}

// P6.1: no bytes at all.
func TestNoBytes(t *testing.T) {
	for _, b := range [][]byte{nil, {}} {
		reads(t, layout.Row(), b, api.Value{})
		reads(t, layout.Fixed(0), b, api.Value{})
		reads(t, layout.Rest(0, 0), b, api.Value{})
		reads(t, layout.Rest(0, 9), b, api.Value{})
		reads(t, layout.Row(layout.Fixed(0), layout.Row(), layout.Rest(0, 3)), b, value.List(value.Bytes(), value.List(), value.Bytes()))
		for _, f := range rightForms() {
			if layout.Least(f) > 0 {
				fails(t, f, b, 0, api.ErrShort)
			}
		}
	}
	for _, f := range []api.Form{layout.Row(), layout.Fixed(0), layout.Rest(0, 0), layout.Row(layout.Row(), layout.Fixed(0))} {
		fails(t, f, some(0), 0, api.ErrTrail)
		fails(t, f, some(7, 8), 0, api.ErrTrail)
	}
}

// P6.1: a Row has as many parts as a Row may.
func TestLongRows(t *testing.T) {
	parts, v := make([]api.Form, 32), api.Value{}
	for i := range parts {
		parts[i] = layout.Number(1)
		v.L = append(v.L, value.Number(uint64(i+1)))
	}
	f := layout.Row(parts...)
	reads(t, f, numbered(32), v)
	fails(t, f, numbered(31), 31, api.ErrShort)
	fails(t, f, numbered(33), 32, api.ErrTrail)
}

// P6.1: Lists in Rows, Rows in Lists, and Lists in Lists.
func TestFormsInForms(t *testing.T) {
	number := func(x uint64) api.Value { return value.Number(x) }
	pair := layout.Row(layout.Number(2), layout.Opaque(1, 0, 9))
	pairs := layout.List(2, 0, 99, 1, pair)
	first, second := value.List(number(0x102), value.Bytes()), value.List(number(0x304), value.Bytes(5, 6))
	reads(t, pairs, some(0, 8, 1, 2, 0, 3, 4, 2, 5, 6), value.List(first, second))
	reads(t, layout.Row(pairs, layout.Number(1), pairs), some(0, 3, 1, 2, 0, 77, 0, 5, 3, 4, 2, 5, 6), value.List(value.List(first), number(77), value.List(second)))
	reads(t, layout.Row(pairs, pairs), some(0, 0, 0, 0), value.List(value.List(), value.List()))
	lists := layout.List(1, 0, 99, 1, layout.List(1, 0, 9, 1, layout.List(1, 0, 9, 1, layout.Number(1))))
	reads(t, lists, some(9, 4, 2, 5, 6, 0, 0, 2, 1, 7), value.List(value.List(value.List(number(5), number(6)), value.List()), value.List(), value.List(value.List(number(7)))))
	reads(t, lists, some(0), value.List())
	reads(t, lists, some(1, 0), value.List(value.List()))
	reads(t, lists, some(2, 1, 0), value.List(value.List(value.List())))
	reads(t, lists, some(3, 2, 1, 7), value.List(value.List(value.List(number(7)))))
}

// P6.1: of several things that are wrong the one that is met first is told, with its place.
func TestOrder(t *testing.T) {
	one, short := layout.Number(1), layout.Opaque(1, 1, 3)
	for _, c := range []struct {
		f  api.Form
		b  []byte
		at int
		e  api.Errno
	}{
		// A length that may not be, ahead of too few bytes for it; and too few for the length itself ahead of that.
		{short, some(4), 0, api.ErrLength},
		{short, some(0), 0, api.ErrLength},
		{layout.Opaque(2, 0, 3), some(9), 1, api.ErrShort},
		{opaque(1, 0, 9, 2), some(3), 0, api.ErrLength},
		{layout.List(1, 0, 9, 2, one), some(5, 1), 0, api.ErrLength},

		// Too few bytes for a List, ahead of what is wrong in it.
		{layout.List(1, 0, 9, 1, short), some(3, 4), 2, api.ErrShort},
		{layout.List(1, 0, 9, 1, short), some(3, 4, 1, 1), 1, api.ErrLength},
		{layout.List(1, 0, 9, 1, layout.List(1, 0, 9, 1, short)), some(3, 3, 0, 0), 4, api.ErrShort},
		{layout.List(1, 0, 9, 1, layout.List(1, 0, 9, 1, short)), some(3, 2, 0, 0), 2, api.ErrLength},

		// What is wrong in a part, ahead of what is wrong in one behind it, and of bytes behind all.
		{layout.Row(short, short), some(4, 1, 1, 1, 1, 0, 9), 0, api.ErrLength},
		{layout.Row(short, short), some(1, 1, 0, 9, 9), 2, api.ErrLength},
		{layout.Row(short, short), some(1, 1, 3, 9), 4, api.ErrShort},
		{layout.Row(short, short), some(1, 1, 1, 1, 9), 4, api.ErrTrail},
		{layout.Row(layout.List(1, 0, 9, 1, short), short), some(4, 1, 1, 2, 1, 0), 5, api.ErrShort},
		{layout.Row(layout.List(1, 0, 9, 1, short), short), some(4, 1, 1, 1, 1, 0), 5, api.ErrLength},
		{layout.List(1, 0, 9, 1, short), some(4, 1, 1, 0, 0, 9), 3, api.ErrLength},
		{layout.List(1, 0, 9, 1, short), some(3, 1, 1, 1, 0, 9), 4, api.ErrShort},
		{layout.List(1, 0, 9, 1, short), some(2, 1, 1, 1, 0, 9), 3, api.ErrTrail},

		// A Rest that is too short or too long, behind what is wrong ahead of it.
		{layout.Row(short, layout.Rest(1, 2)), some(0, 1, 2, 3, 4), 0, api.ErrLength},
		{layout.Row(short, layout.Rest(1, 2)), some(3, 1, 2), 3, api.ErrShort},
		{layout.Row(short, layout.Rest(1, 2)), some(2, 1, 2), 3, api.ErrShort},
		{layout.Row(short, layout.Rest(1, 2)), some(1, 1, 2, 3, 4), 4, api.ErrTrail},
		{layout.Row(short, layout.Rest(0, 0)), some(1, 1, 2, 3, 4), 2, api.ErrTrail},
	} {
		fails(t, c.f, c.b, c.at, c.e)
	}
}

// P6.2: Prefix is Read, but that bytes may stand behind.
func TestPrefix(t *testing.T) {
	list := layout.List(1, 0, 4, 1, layout.Number(1))
	numbers := value.List(value.Number(5), value.Number(6))
	for _, c := range []struct {
		f    api.Form
		b    []byte
		want answer
	}{
		{layout.Number(1), some(1), answer{v: value.Number(1), at: 1}},
		{layout.Number(1), some(1, 2), answer{v: value.Number(1), at: 1}},
		{layout.Number(2), some(1, 2, 3, 4, 5), answer{v: value.Number(0x102), at: 2}},
		{layout.Number(2), some(1), answer{at: 1, e: api.ErrShort}},
		{layout.Opaque(1, 0, 2), some(2, 8, 9, 7), answer{v: value.Bytes(8, 9), at: 3}},
		{layout.Opaque(1, 0, 2), some(0, 8, 9, 7), answer{v: value.Bytes(), at: 1}},
		{layout.Opaque(1, 0, 2), some(3, 8, 9, 7), answer{at: 0, e: api.ErrLength}},
		{layout.Opaque(1, 0, 2), some(2, 8), answer{at: 2, e: api.ErrShort}},
		{list, some(2, 5, 6, 7), answer{v: numbers, at: 3}},
		{list, some(2, 5, 6), answer{v: numbers, at: 3}},
		{list, some(0, 5, 6), answer{v: value.List(), at: 1}},
		{layout.List(1, 0, 4, 1, layout.Number(2)), some(3, 5, 6, 7, 8, 9), answer{at: 4, e: api.ErrShort}},
		{layout.Fixed(2), some(1, 2, 3), answer{v: value.Bytes(1, 2), at: 2}},
		{layout.Fixed(0), some(1, 2, 3), answer{v: value.Bytes(), at: 0}},
		{layout.Fixed(4), some(1, 2, 3), answer{at: 3, e: api.ErrShort}},
		{layout.Row(), some(1, 2, 3), answer{v: value.List(), at: 0}},
		{layout.Row(), nil, answer{v: value.List(), at: 0}},
		{layout.Row(layout.Number(1), list), some(9, 2, 5, 6, 7, 7), answer{v: value.List(value.Number(9), numbers), at: 4}},

		// An open form takes all bytes up to the end.
		{layout.Rest(0, 3), some(1, 2, 3), answer{v: value.Bytes(1, 2, 3), at: 3}},
		{layout.Rest(0, 3), nil, answer{v: value.Bytes(), at: 0}},
		{layout.Rest(0, 3), some(1, 2, 3, 4), answer{at: 3, e: api.ErrTrail}},
		{layout.Rest(0, 0), some(1, 2, 3, 4), answer{at: 0, e: api.ErrTrail}},
		{layout.Rest(3, 9), some(1, 2), answer{at: 2, e: api.ErrShort}},
		{layout.Row(list, layout.Row(layout.Rest(1, 2))), some(2, 5, 6, 7, 8), answer{v: value.List(numbers, value.List(value.Bytes(7, 8))), at: 5}},
		{layout.Row(list, layout.Row(layout.Rest(1, 2))), some(2, 5, 6, 7, 8, 9), answer{at: 5, e: api.ErrTrail}},
		{layout.Row(list, layout.Row(layout.Rest(1, 2))), some(2, 5, 6), answer{at: 3, e: api.ErrShort}},
	} {
		for _, base := range bases {
			if a := got(read.Prefix(c.f, c.b, base)); !a.is(c.want, base) {
				t.Errorf("Prefix(%v, %v, %d): %v; want %v from %d on", c.f, c.b, base, a, c.want, base)
			}
		}
	}
	for _, w := range wrongForms() {
		for _, b := range [][]byte{nil, some(1), some(9, 9, 9)} {
			for _, base := range bases {
				if a := got(read.Prefix(w.f, b, base)); !a.is(answer{e: w.e}, base) {
					t.Errorf("Prefix(%v, %v, %d): %v; want no value, %d, %v", w.f, b, base, a, base, w.e)
				}
			}
		}
	}
}

// P6.2: what stands behind goes on to be read from the place that was told.
func TestPrefixesInARow(t *testing.T) {
	f := layout.Opaque(1, 0, 9)
	b, at := some(2, 7, 8, 0, 1, 9), 40
	for _, want := range [][]byte{{7, 8}, {}, {9}} {
		v, behind, e := read.Prefix(f, b[at-40:], at)
		if e != api.OK || !bytes.Equal(v.B, want) || behind != at+1+len(want) {
			t.Fatalf("at %d: %v, %d, %v; want %v", at, v, behind, e, want)
		}
		at = behind
	}
	if _, behind, e := read.Prefix(f, b[at-40:], at); e != api.ErrShort || behind != 46 {
		t.Error(behind, e)
	}
}
