package builder_test

import (
	"bytes"
	"math"
	"slices"
	"testing"

	"passepartout/api"
	"passepartout/builder"
	"passepartout/cursor"
)

const greatestMost = 1 << 30

// numberSizes are those of numbers, with the greatest number of each.
var numberSizes = []struct {
	size     int
	greatest uint64
}{{1, 255}, {2, 65535}, {3, 1<<24 - 1}, {4, math.MaxUint32}, {8, math.MaxUint64}}

// partSizes are those of lengths, with the greatest length of each.
var partSizes = []struct{ size, greatest int }{{1, 255}, {2, 65535}, {3, 1<<24 - 1}}

// row is n bytes that differ from their neighbours, none of them 0.
func row(n int) []byte {
	b := make([]byte, n)
	for i := range b {
		b[i] = byte(i%255 + 1)
	}
	return b
}

// join is one list of many.
func join(lists ...[]byte) []byte { return bytes.Join(lists, nil) }

// brief is a list as a failed test tells it: not a million bytes of it.
func brief(b []byte) []byte { return b[:min(len(b), 40)] }

// made is a new builder that may have so many bytes.
func made(t *testing.T, most int) *builder.Builder {
	t.Helper()
	b, e := builder.New(most)
	if b == nil || e != api.OK {
		t.Fatalf("New(%d): %v, %v", most, b, e)
	}
	return b
}

// went asks that a call was done.
func went(t *testing.T, what string, e api.Errno) {
	t.Helper()
	if e != api.OK {
		t.Fatalf("%s: %v", what, e)
	}
}

// stands asks how many bytes and open parts there are.
func stands(t *testing.T, what string, b *builder.Builder, length, deep int) {
	t.Helper()
	if b.Len() != length || b.Deep() != deep {
		t.Errorf("%s: Len %d, Deep %d; want %d, %d", what, b.Len(), b.Deep(), length, deep)
	}
}

// has asks for all bytes, of a builder without open parts.
func has(t *testing.T, what string, b *builder.Builder, want []byte) {
	t.Helper()
	stands(t, what, b, len(want), 0)
	if x, e := b.Done(); e != api.OK || !bytes.Equal(x, want) {
		t.Errorf("%s: Done %v, %v; want %v", what, brief(x), e, brief(want))
	}
}

// refused asks for an error, and that Len, Deep, and what Done answers are what they were.
func refused(t *testing.T, what string, b *builder.Builder, want api.Errno, call func() api.Errno) {
	t.Helper()
	length, deep := b.Len(), b.Deep()
	before, beforeError := b.Done()
	if e := call(); e != want {
		t.Errorf("%s: %v; want %v", what, e, want)
	}
	stands(t, what+", refused", b, length, deep)
	if after, e := b.Done(); e != beforeError || !bytes.Equal(before, after) {
		t.Errorf("%s, refused: Done %v, %v; was %v, %v", what, brief(after), e, brief(before), beforeError)
	}
}

// refusesNumber asks that a number is refused.
func refusesNumber(t *testing.T, b *builder.Builder, size int, x uint64, want api.Errno) {
	t.Helper()
	refused(t, "Number", b, want, func() api.Errno { return b.Number(size, x) })
}

// refusesBytes asks that so many bytes are refused.
func refusesBytes(t *testing.T, b *builder.Builder, n int, want api.Errno) {
	t.Helper()
	refused(t, "Bytes", b, want, func() api.Errno { return b.Bytes(row(n)...) })
}

// refusesOpen asks that a part is refused.
func refusesOpen(t *testing.T, b *builder.Builder, size int, want api.Errno) {
	t.Helper()
	refused(t, "Open", b, want, func() api.Errno { return b.Open(size) })
}

// refusesClose asks that the last part stays open.
func refusesClose(t *testing.T, b *builder.Builder, want api.Errno) {
	t.Helper()
	refused(t, "Close", b, want, b.Close)
}

// refusesDone asks that nothing is told while a part is open.
func refusesDone(t *testing.T, b *builder.Builder, want api.Errno) {
	t.Helper()
	length, deep := b.Len(), b.Deep()
	if x, e := b.Done(); len(x) != 0 || e != want {
		t.Errorf("Done: %v, %v; want nothing, %v", brief(x), e, want)
	}
	stands(t, "Done, refused", b, length, deep)
}

func TestExampleOfTheChapter(t *testing.T) {
	b := made(t, 100)
	went(t, "Number", b.Number(1, 9))
	went(t, "Open", b.Open(2))
	went(t, "Bytes", b.Bytes(7, 8))
	went(t, "Close", b.Close())
	has(t, "the example", b, []byte{9, 0, 2, 7, 8})
}

// P2.1: a new one is without bytes and parts, for as few and as many as may be.
func TestNew(t *testing.T) {
	for _, most := range []int{0, 1, 2, 255, 256, 65536, 1<<24 + 3, greatestMost - 1, greatestMost} {
		has(t, "a new one", made(t, most), nil)
	}
}

// P2.1: none is made for fewer than no bytes, nor for more than 2^30.
func TestNewOutOfRange(t *testing.T) {
	for _, most := range []int{-1, -2, -256, math.MinInt32, math.MinInt + 1, math.MinInt,
		greatestMost + 1, greatestMost + 2, math.MaxInt32, 1 << 32, 1<<32 + 5, math.MaxInt - 1, math.MaxInt} {
		if b, e := builder.New(most); b != nil || e != api.ErrRange {
			t.Errorf("New(%d): %v, %v; want nil, %v", most, b, e, api.ErrRange)
		}
	}
}

// P2.1: one that is made for no bytes takes none.
func TestBuilderOfNone(t *testing.T) {
	b := made(t, 0)
	for _, s := range numberSizes {
		refusesNumber(t, b, s.size, 0, api.ErrLength)
	}
	for _, s := range partSizes {
		refusesOpen(t, b, s.size, api.ErrLength)
	}
	refusesBytes(t, b, 1, api.ErrLength)
	went(t, "Bytes of none", b.Bytes())
	refusesClose(t, b, api.ErrState)
	has(t, "one for no bytes", b, nil)
}

// P2.1: one that is made for 2^30 bytes takes no more. (The list is never written, so it costs no memory.)
func TestBuilderOfTheMost(t *testing.T) {
	many := make([]byte, greatestMost+1)
	b := made(t, greatestMost)
	refused(t, "2^30 + 1 bytes", b, api.ErrLength, func() api.Errno { return b.Bytes(many...) })
	went(t, "Bytes", b.Bytes(5))
	refused(t, "2^30 bytes behind one", b, api.ErrLength, func() api.Errno { return b.Bytes(many[1:]...) })
	has(t, "as it was", b, []byte{5})
}

// P2.1: each size, the highest byte first, behind what was there.
func TestNumberIsHighestFirst(t *testing.T) {
	all := []byte{0x81, 0x02, 0x83, 0x04, 0x85, 0x06, 0x87, 0x08}
	for _, s := range numberSizes {
		var x uint64
		for _, y := range all[:s.size] {
			x = x*256 + uint64(y)
		}
		b := made(t, 100)
		went(t, "Number", b.Number(s.size, x))
		has(t, "one number", b, all[:s.size])
		went(t, "Number", b.Number(s.size, x))
		has(t, "two numbers", b, join(all[:s.size], all[:s.size]))
	}
}

// P2.1: the least and the greatest number of each size, and small ones, whose highest bytes are 0.
func TestNumberLeastAndGreatest(t *testing.T) {
	for _, s := range numberSizes {
		b := made(t, 4*s.size)
		zeros, full := make([]byte, s.size), bytes.Repeat([]byte{255}, s.size)
		one, low := slices.Clone(zeros), slices.Clone(full)
		one[s.size-1], low[s.size-1] = 1, 254
		for _, x := range []uint64{0, s.greatest, 1, s.greatest - 1} {
			went(t, "Number", b.Number(s.size, x))
		}
		has(t, "the edges of a size", b, join(zeros, full, one, low))
	}
}

// P2.1: a number that is one too great for its size, and far greater ones, also such whose lowest bytes would fit. Of 8 bytes there is none.
func TestNumberTooGreat(t *testing.T) {
	for _, s := range numberSizes {
		if s.size == 8 {
			continue
		}
		b := made(t, 100)
		went(t, "Bytes", b.Bytes(1, 2, 3))
		for _, x := range []uint64{s.greatest + 1, s.greatest + 2, 1 << 32, 1<<40 + 1, 1 << 63, 1<<63 + 1, math.MaxUint64 - 1, math.MaxUint64} {
			refusesNumber(t, b, s.size, x, api.ErrRange)
		}
		has(t, "as it was", b, []byte{1, 2, 3})
	}
}

// noSizes are sizes that neither numbers nor (beyond 4 and 8) lengths have, also such that would be one in fewer bits.
func noSizes() []int {
	wrong := []int{math.MinInt, math.MinInt + 1, math.MinInt + 8, math.MinInt32, math.MaxInt32, math.MaxInt - 1, math.MaxInt}
	for _, size := range []int{1, 2, 3, 4, 8} {
		wrong = append(wrong, 1<<8+size, 1<<16+size, 1<<32+size)
	}
	for size := -70; size <= 70; size++ {
		if !slices.Contains([]int{1, 2, 3, 4, 8}, size) {
			wrong = append(wrong, size)
		}
	}
	return wrong
}

// P2.1: sizes that are none, whatever the number, and where nothing more may be, too: ErrArg goes ahead of ErrRange, and this ahead of ErrLength.
func TestNumberOfNoSize(t *testing.T) {
	for _, most := range []int{0, 3, 400} {
		b := made(t, most)
		went(t, "Bytes", b.Bytes(row(min(most, 3))...))
		for _, size := range noSizes() {
			for _, x := range []uint64{0, 1, 256, math.MaxUint64} {
				refusesNumber(t, b, size, x, api.ErrArg)
			}
		}
		has(t, "as it was", b, row(min(most, 3)))
	}
}

// P2.1: ErrRange goes ahead of ErrLength.
func TestNumberTooGreatWhereNoneMayBe(t *testing.T) {
	b := made(t, 0)
	refusesNumber(t, b, 1, 256, api.ErrRange)
	refusesNumber(t, b, 2, 65536, api.ErrRange)
	refusesNumber(t, b, 3, 1<<24, api.ErrRange)
	refusesNumber(t, b, 4, 1<<32, api.ErrRange)
	refusesNumber(t, b, 8, math.MaxUint64, api.ErrLength)
}

// P2.1: a number where just as many bytes may be, and where one too few.
func TestNumberToTheMost(t *testing.T) {
	for _, s := range numberSizes {
		for _, ahead := range []int{0, 1, 300} {
			b := made(t, ahead+s.size-1)
			went(t, "Bytes", b.Bytes(row(ahead)...))
			refusesNumber(t, b, s.size, s.greatest, api.ErrLength)
			has(t, "one too few", b, row(ahead))
			b = made(t, ahead+s.size)
			went(t, "Bytes", b.Bytes(row(ahead)...))
			went(t, "Number", b.Number(s.size, s.greatest))
			refusesNumber(t, b, 1, 0, api.ErrLength)
			has(t, "just enough", b, join(row(ahead), bytes.Repeat([]byte{255}, s.size)))
		}
	}
}

// P2.1: bytes of none, of some, of just as many as may be, and of one more.
func TestBytes(t *testing.T) {
	for _, most := range []int{1, 2, 20, 255, 256, 1000, 100000} {
		b := made(t, most)
		went(t, "none", b.Bytes())
		went(t, "a nil list", b.Bytes([]byte(nil)...))
		went(t, "an empty list", b.Bytes([]byte{}...))
		has(t, "still nothing", b, nil)
		refusesBytes(t, b, most+1, api.ErrLength)
		went(t, "some", b.Bytes(row(most/2)...))
		has(t, "some", b, row(most/2))
		refusesBytes(t, b, most-most/2+1, api.ErrLength)
		refusesBytes(t, b, most+1, api.ErrLength)
		went(t, "the rest", b.Bytes(row(most-most/2)...))
		want := join(row(most/2), row(most-most/2))
		has(t, "full", b, want)
		refusesBytes(t, b, 1, api.ErrLength)
		went(t, "none, of a full one", b.Bytes())
		has(t, "full, still", b, want)
	}
}

// P2.1: each size of a length, with as many bytes for it; a part without bytes has the length 0.
func TestOpen(t *testing.T) {
	for _, s := range partSizes {
		b := made(t, 100)
		went(t, "Bytes", b.Bytes(9))
		went(t, "Open", b.Open(s.size))
		stands(t, "open", b, 1+s.size, 1)
		refusesDone(t, b, api.ErrState)
		went(t, "Close", b.Close())
		has(t, "a part without bytes", b, join([]byte{9}, make([]byte, s.size)))
	}
}

// P2.1: lengths have 1 to 3 bytes, whatever more may be: ErrArg goes ahead of ErrLength.
func TestOpenOfNoSize(t *testing.T) {
	for _, most := range []int{0, 3, 400} {
		b := made(t, most)
		went(t, "Bytes", b.Bytes(row(min(most, 3))...))
		for _, size := range append(noSizes(), 4, 8) {
			refusesOpen(t, b, size, api.ErrArg)
		}
		has(t, "as it was", b, row(min(most, 3)))
		refusesClose(t, b, api.ErrState)
	}
}

// P2.1: a length where just as many bytes may be, and where one too few: a full builder's part may be closed.
func TestOpenToTheMost(t *testing.T) {
	for _, s := range partSizes {
		for _, ahead := range []int{0, 1, 300} {
			b := made(t, ahead+s.size-1)
			went(t, "Bytes", b.Bytes(row(ahead)...))
			refusesOpen(t, b, s.size, api.ErrLength)
			has(t, "one too few", b, row(ahead))
			refusesClose(t, b, api.ErrState)
			b = made(t, ahead+s.size)
			went(t, "Bytes", b.Bytes(row(ahead)...))
			went(t, "Open", b.Open(s.size))
			stands(t, "just enough", b, ahead+s.size, 1)
			refusesBytes(t, b, 1, api.ErrLength)
			refusesOpen(t, b, 1, api.ErrLength)
			went(t, "Close", b.Close())
			has(t, "just enough", b, join(row(ahead), make([]byte, s.size)))
		}
	}
}

// lengthBytes are a length's, worked out by division.
func lengthBytes(size, n int) []byte {
	var b []byte
	for range size {
		b = append([]byte{byte(n % 256)}, b...)
		n /= 256
	}
	return b
}

// P2.2: lengths of each size, up to the greatest that it can tell; what stood ahead of the part is as it was, and isn't counted.
func TestCloseTellsTheLength(t *testing.T) {
	for _, s := range partSizes {
		for _, n := range []int{0, 1, 2, 127, 128, 254, 255, 256, 257, 511, 512, 65534, 65535, 65536, 65537, 1<<24 - 2, 1<<24 - 1} {
			if n > s.greatest {
				continue
			}
			b := made(t, 5+s.size+n)
			went(t, "Bytes", b.Bytes(row(5)...))
			went(t, "Open", b.Open(s.size))
			went(t, "Bytes", b.Bytes(row(n)...))
			stands(t, "ahead of Close", b, 5+s.size+n, 1)
			refusesDone(t, b, api.ErrState)
			went(t, "Close", b.Close())
			has(t, "behind Close", b, join(row(5), lengthBytes(s.size, n), row(n)))
		}
	}
}

// P2.2: one byte more than a length of its size can tell, and far more: the part stays open, and what comes behind it is counted on.
func TestCloseTooLong(t *testing.T) {
	for _, s := range partSizes {
		for _, n := range []int{s.greatest + 1, s.greatest + 2, 2*s.greatest + 2} {
			b := made(t, 1<<26)
			went(t, "Open", b.Open(s.size))
			went(t, "Bytes", b.Bytes(row(n)...))
			refusesClose(t, b, api.ErrLength)
			refusesDone(t, b, api.ErrState)
			refusesClose(t, b, api.ErrLength)
			went(t, "Number", b.Number(2, 1))
			stands(t, "two more", b, s.size+n+2, 1)
			refusesClose(t, b, api.ErrLength)
		}
	}
}

// P2.2: the bytes of lengths within a part count as its own.
func TestCloseCountsTheLengthsWithin(t *testing.T) {
	for _, s := range partSizes {
		for _, within := range partSizes {
			for more := range 2 {
				n := 255 - s.size + more
				b := made(t, 1000)
				went(t, "Open", b.Open(1))
				went(t, "Bytes", b.Bytes(row(n-within.size)...))
				went(t, "Open", b.Open(s.size))
				went(t, "Open", b.Open(within.size))
				went(t, "Close", b.Close())
				went(t, "Close", b.Close())
				stands(t, "two parts closed", b, 1+255+more, 1)
				if more > 0 {
					refusesClose(t, b, api.ErrLength)
					continue
				}
				went(t, "Close", b.Close())
				has(t, "all closed", b, join([]byte{255}, row(n-within.size), lengthBytes(s.size, within.size), make([]byte, within.size)))
			}
		}
	}
}

// P2.2: a part that is too long keeps the one around it open, while one beside it was closed.
func TestCloseTooLongWithin(t *testing.T) {
	b := made(t, 1000)
	went(t, "Open", b.Open(3))
	went(t, "Open", b.Open(1))
	went(t, "Bytes", b.Bytes(row(255)...))
	went(t, "Close", b.Close())
	went(t, "Open", b.Open(1))
	went(t, "Bytes", b.Bytes(row(256)...))
	stands(t, "two open", b, 3+256+257, 2)
	refusesClose(t, b, api.ErrLength)
	went(t, "Open", b.Open(2))
	went(t, "Close", b.Close())
	refusesClose(t, b, api.ErrLength)
	stands(t, "two open, still", b, 3+256+257+2, 2)
}

// P2.2: no part was ever open, or all are closed.
func TestCloseWithoutPart(t *testing.T) {
	b := made(t, 10)
	refusesClose(t, b, api.ErrState)
	went(t, "Bytes", b.Bytes(1, 2))
	refusesClose(t, b, api.ErrState)
	went(t, "Open", b.Open(1))
	went(t, "Close", b.Close())
	refusesClose(t, b, api.ErrState)
	refusesOpen(t, b, 4, api.ErrArg)
	refusesClose(t, b, api.ErrState)
	has(t, "behind it", b, []byte{1, 2, 0})
}

// P2.2: parts one in the other, of all sizes, and one behind the other.
func TestPartsInParts(t *testing.T) {
	b := made(t, 100)
	went(t, "Open", b.Open(3))
	went(t, "Number", b.Number(1, 70))
	went(t, "Open", b.Open(2))
	went(t, "Open", b.Open(1))
	stands(t, "three open", b, 7, 3)
	went(t, "Bytes", b.Bytes(71, 72))
	went(t, "Close", b.Close())
	stands(t, "two open", b, 9, 2)
	refusesDone(t, b, api.ErrState)
	went(t, "Open", b.Open(1))
	went(t, "Close", b.Close())
	went(t, "Number", b.Number(2, 0x4950))
	went(t, "Close", b.Close())
	stands(t, "one open", b, 12, 1)
	refusesDone(t, b, api.ErrState)
	went(t, "Bytes", b.Bytes(74))
	went(t, "Close", b.Close())
	has(t, "none open", b, []byte{0, 0, 10, 70, 0, 6, 2, 71, 72, 0, 0x49, 0x50, 74})
	went(t, "Open", b.Open(2))
	went(t, "Bytes", b.Bytes(75))
	went(t, "Close", b.Close())
	has(t, "one behind the other", b, []byte{0, 0, 10, 70, 0, 6, 2, 71, 72, 0, 0x49, 0x50, 74, 0, 1, 75})
}

// P2.2, P2.3: many parts one in the other, each of which has all lengths behind it.
func TestPartsInPartsDeep(t *testing.T) {
	const deep = 5000
	b := made(t, 2*deep)
	for i := range deep {
		went(t, "Open", b.Open(2))
		stands(t, "opening", b, 2*(i+1), i+1)
	}
	refusesOpen(t, b, 1, api.ErrLength)
	var want []byte
	for i := range deep {
		want = append(want, lengthBytes(2, 2*(deep-1-i))...)
		refusesDone(t, b, api.ErrState)
		went(t, "Close", b.Close())
		stands(t, "closing", b, 2*deep, deep-1-i)
	}
	has(t, "all closed", b, want)
}

// P2.3: refused calls while parts are open leave the parts, and the bytes that are seen when they are closed.
func TestRefusedWithinParts(t *testing.T) {
	b := made(t, 12)
	went(t, "Open", b.Open(1))
	went(t, "Bytes", b.Bytes(50, 51))
	went(t, "Open", b.Open(2))
	went(t, "Bytes", b.Bytes(52))
	for range 2 {
		refusesNumber(t, b, 5, 1, api.ErrArg)
		refusesNumber(t, b, 1, 256, api.ErrRange)
		refusesNumber(t, b, 8, 1, api.ErrLength)
		refusesBytes(t, b, 7, api.ErrLength)
		refusesOpen(t, b, 0, api.ErrArg)
		refusesDone(t, b, api.ErrState)
		stands(t, "two open", b, 6, 2)
	}
	went(t, "Bytes", b.Bytes(53, 54, 55, 56, 57))
	refusesOpen(t, b, 2, api.ErrLength)
	went(t, "Close", b.Close())
	went(t, "Number", b.Number(1, 58))
	went(t, "Close", b.Close())
	refusesClose(t, b, api.ErrState)
	has(t, "all closed", b, []byte{11, 50, 51, 0, 6, 52, 53, 54, 55, 56, 57, 58})
}

// P2.3: telling changes nothing, and behind Done the builder goes on.
func TestAskingChangesNothing(t *testing.T) {
	b := made(t, 10)
	for range 3 {
		has(t, "asked of none", b, nil)
	}
	went(t, "Bytes", b.Bytes(1, 2))
	for range 3 {
		has(t, "asked again", b, []byte{1, 2})
	}
	went(t, "Open", b.Open(1))
	for range 3 {
		stands(t, "asked within a part", b, 3, 1)
		refusesDone(t, b, api.ErrState)
	}
	went(t, "Bytes", b.Bytes(3))
	went(t, "Close", b.Close())
	for range 3 {
		has(t, "asked at last", b, []byte{1, 2, 1, 3})
	}
}

// P2.4: a cursor reads what was written, of all sizes.
func TestCursorReadsWhatWasBuilt(t *testing.T) {
	b := made(t, 2000)
	went(t, "Open", b.Open(3))
	for _, s := range numberSizes {
		for _, x := range []uint64{0, 1, s.greatest / 3, s.greatest} {
			went(t, "Number", b.Number(s.size, x))
		}
	}
	for _, s := range partSizes {
		went(t, "Open", b.Open(s.size))
		went(t, "Bytes", b.Bytes(row(200+s.size)...))
		went(t, "Close", b.Close())
	}
	went(t, "Close", b.Close())
	x, e := b.Done()
	went(t, "Done", e)
	c := cursor.New(x, 0)
	c = within(t, c, 3)
	for _, s := range numberSizes {
		for _, want := range []uint64{0, 1, s.greatest / 3, s.greatest} {
			if x, e := c.Number(s.size); x != want || e != api.OK {
				t.Errorf("Number(%d): %d, %v; want %d", s.size, x, e, want)
			}
		}
	}
	for _, s := range partSizes {
		p := within(t, c, s.size)
		if x, e := p.Take(p.Left()); e != api.OK || !bytes.Equal(x, row(200+s.size)) {
			t.Error("a part:", x, e)
		}
	}
	if c.Left() != 0 || c.End() != len(x) {
		t.Error("behind all:", c.Left(), c.End())
	}
}

// within is a cursor of the part that comes next.
func within(t *testing.T, c *cursor.Cursor, size int) *cursor.Cursor {
	t.Helper()
	n, e := c.Number(size)
	if e != api.OK {
		t.Fatal("a length:", e)
	}
	p, e := c.Sub(int(n))
	if e != api.OK {
		t.Fatal("a part of", n, ":", e)
	}
	return p
}

// step is one call of a walk, or (as a thing that was written) a number, bytes, or a part.
type step struct {
	kind, size int
	x          uint64
	b          []byte
	in         []*step // of a part
}

const (
	kindNumber = iota
	kindBytes
	kindOpen
	kindClose
)

// steps are the calls that a walk is made of: such as are done, and such as are refused.
func steps() []step {
	return []step{
		{kind: kindNumber, size: 1, x: 7},
		{kind: kindNumber, size: 3, x: 0x010203},
		{kind: kindNumber, size: 1, x: 256},
		{kind: kindNumber, size: 0, x: 256},
		{kind: kindBytes},
		{kind: kindBytes, b: []byte{8, 9}},
		{kind: kindOpen, size: 1},
		{kind: kindOpen, size: 3},
		{kind: kindOpen, size: 4},
		{kind: kindClose},
	}
}

// P2.1 to P2.4: whatever is asked, in whatever order: each call is done or refused as the chapter says, and a cursor reads what was done and nothing else.
func TestWalks(t *testing.T) {
	for _, most := range []int{0, 3, 6, 100} {
		var walk func(asked []step)
		walk = func(asked []step) {
			follow(t, most, asked)
			if len(asked) < 4 {
				for _, s := range steps() {
					walk(append(asked[:len(asked):len(asked)], s))
				}
			}
		}
		walk(nil)
	}
}

// follow puts the calls to one builder, and holds it against the things that were written and how many bytes they are.
func follow(t *testing.T, most int, asked []step) {
	b := made(t, most)
	length := 0
	parts := []*step{{}} // the whole, and the open ones in it
	for _, s := range asked {
		want := verdict(s, most-length, len(parts)-1)
		if e := call(b, s); e != want {
			t.Fatal(most, asked, s, e, want)
		}
		if want == api.OK {
			last := parts[len(parts)-1]
			length += s.size + len(s.b)
			switch s.kind {
			case kindClose:
				parts = parts[:len(parts)-1]
			case kindOpen:
				parts = append(parts, &s)
				last.in = append(last.in, &s)
			default:
				last.in = append(last.in, &s)
			}
		}
		stands(t, "on a walk", b, length, len(parts)-1)
	}
	for range len(parts) - 1 {
		refusesDone(t, b, api.ErrState)
		went(t, "Close", b.Close())
	}
	x, e := b.Done()
	went(t, "Done", e)
	if len(x) != length || !reads(t, cursor.New(x, 0), parts[0].in) {
		t.Fatal(most, asked, x)
	}
}

// call is a step's.
func call(b *builder.Builder, s step) api.Errno {
	switch s.kind {
	case kindNumber:
		return b.Number(s.size, s.x)
	case kindBytes:
		return b.Bytes(s.b...)
	case kindOpen:
		return b.Open(s.size)
	}
	return b.Close()
}

// verdict is the error that the chapter asks for, where so many bytes are left.
func verdict(s step, left, deep int) api.Errno {
	switch {
	case s.kind == kindNumber && s.size == 0, s.kind == kindOpen && s.size == 4:
		return api.ErrArg
	case s.kind == kindNumber && s.x == 256:
		return api.ErrRange
	case s.kind == kindClose && deep == 0:
		return api.ErrState
	case s.size+len(s.b) > left:
		return api.ErrLength
	}
	return api.OK
}

// reads asks whether a cursor reads these things, and nothing behind them.
func reads(t *testing.T, c *cursor.Cursor, things []*step) bool {
	t.Helper()
	for _, s := range things {
		switch s.kind {
		case kindNumber:
			if x, e := c.Number(s.size); x != s.x || e != api.OK {
				return false
			}
		case kindBytes:
			if x, e := c.Take(len(s.b)); !bytes.Equal(x, s.b) || e != api.OK {
				return false
			}
		case kindOpen:
			if !reads(t, within(t, c, s.size), s.in) {
				return false
			}
		}
	}
	return c.Left() == 0
}

// The line in brackets: of a nil builder, at all arguments, ErrNil ahead of all others.
func TestNilBuilder(t *testing.T) {
	var none *builder.Builder
	stands(t, "none", none, 0, 0)
	for _, size := range []int{math.MinInt, -1, 0, 1, 2, 3, 4, 5, 8, 9, math.MaxInt} {
		for _, x := range []uint64{0, 1, 256, math.MaxUint64} {
			refusesNumber(t, none, size, x, api.ErrNil)
		}
		refusesOpen(t, none, size, api.ErrNil)
	}
	for _, n := range []int{0, 1, 300} {
		refusesBytes(t, none, n, api.ErrNil)
	}
	refusesClose(t, none, api.ErrNil)
	refusesDone(t, none, api.ErrNil)
}

// Rule 4: what Done answers may be changed, and appended to, and neither the builder nor another answer changes; nor do they when the builder goes on.
func TestDoneIsOwn(t *testing.T) {
	for _, n := range []int{1, 3, 8, 30, 1000} {
		b := made(t, 5000)
		went(t, "Bytes", b.Bytes(row(n)...))
		first, _ := b.Done()
		second, _ := b.Done()
		clear(first)
		longer := append(first, row(50)...)
		if !bytes.Equal(second, row(n)) {
			t.Error("another answer changed:", brief(second))
		}
		has(t, "behind a changed answer", b, row(n))
		went(t, "Open", b.Open(2))
		went(t, "Bytes", b.Bytes(99))
		went(t, "Close", b.Close())
		if !bytes.Equal(second, row(n)) || !bytes.Equal(longer, join(make([]byte, n), row(50))) {
			t.Error("an answer changed:", brief(second), brief(longer))
		}
		has(t, "gone on", b, join(row(n), []byte{0, 1, 99}))
	}
}

// Rule 4: no byte of the builder lies behind the length of an answer.
func TestNothingBehindDone(t *testing.T) {
	for n := range 70 {
		b := made(t, 100)
		went(t, "Bytes", b.Bytes(row(n)...))
		x, _ := b.Done()
		for _, y := range x[:cap(x)][n:] {
			if y != 0 {
				t.Error("a byte behind the end was handed out:", y)
			}
		}
	}
}

// Rule 4: what is handed to Bytes is neither changed nor kept, and what lies behind it is neither read nor written.
func TestBytesAreNotKept(t *testing.T) {
	for _, n := range []int{0, 1, 3, 8, 30, 1000} {
		memory := row(2 * n)
		b := made(t, 5000)
		went(t, "Open", b.Open(2))
		went(t, "Bytes", b.Bytes(memory[:n]...))
		went(t, "Number", b.Number(4, 0x61626364))
		went(t, "Close", b.Close())
		if !bytes.Equal(memory, row(2*n)) {
			t.Error("what was handed in was changed:", brief(memory))
		}
		clear(memory)
		has(t, "behind a changed list", b, join(lengthBytes(2, n+4), row(n), []byte{0x61, 0x62, 0x63, 0x64}))
	}
	memory := row(20)
	b := made(t, 5000)
	went(t, "Bytes, the first of all", b.Bytes(memory[:10]...))
	went(t, "Bytes", b.Bytes(99))
	if !bytes.Equal(memory, row(20)) {
		t.Error("what was handed in was changed:", memory)
	}
	clear(memory)
	has(t, "behind a changed list", b, join(row(10), []byte{99}))
}

// Rule 4: what was answered may be handed in again.
func TestDoneHandedInAgain(t *testing.T) {
	b := made(t, 100)
	want := []byte{1, 2, 3}
	went(t, "Bytes", b.Bytes(want...))
	for range 4 {
		x, e := b.Done()
		went(t, "Done", e)
		went(t, "Bytes", b.Bytes(x...))
		want = join(want, want)
		has(t, "doubled", b, want)
	}
}

// P2: two builders, made apart, one with a part open and full.
func TestBuildersApart(t *testing.T) {
	b, c := made(t, 4), made(t, 8)
	went(t, "Bytes", b.Bytes(1, 2))
	has(t, "the other one", c, nil)
	went(t, "Open", b.Open(2))
	refusesClose(t, c, api.ErrState)
	went(t, "Bytes", c.Bytes(5, 6, 7, 8, 9))
	refusesBytes(t, b, 1, api.ErrLength)
	went(t, "Close", b.Close())
	has(t, "the first one", b, []byte{1, 2, 0, 0})
	has(t, "the other one", c, []byte{5, 6, 7, 8, 9})
}
