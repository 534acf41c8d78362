package dertype_test

import (
	"bytes"
	"math"
	"math/big"
	"regexp"
	"slices"
	"testing"
	"time"

	"passepartout/api"
	"passepartout/dertype"
)

// The document's tags whose bytes may be any.
var anyTags = []int{4, 12, 18, 19, 20, 22, 26, 28, 30}

// thereIs asks whether there is such a tag.
func thereIs(tag int) bool {
	return slices.Contains([]int{1, 2, 3, 5, 6, 10, 23, 24}, tag) || slices.Contains(anyTags, tag)
}

// mayBe asks whether bytes may be those of a tag that there is, by the document's words.
func mayBe(tag int, b []byte) bool {
	switch tag {
	case 1:
		return bytes.Equal(b, []byte{0}) || bytes.Equal(b, []byte{255})
	case 2, 10:
		return len(b) > 0 && bytes.Equal(b, complement(signed(b)))
	case 3:
		return isBits(b)
	case 5:
		return len(b) == 0
	case 6:
		return isIdentifier(b)
	case 23, 24:
		_, is := moment(tag, b)
		return is
	}
	return true
}

// wanted is what the document wants Check to answer.
func wanted(tag int, b []byte) api.Errno {
	if !thereIs(tag) {
		return api.ErrArg
	}
	if !mayBe(tag, b) {
		return api.ErrDer
	}
	return api.OK
}

// power is a power of two.
func power(n int) *big.Int { return new(big.Int).Lsh(big.NewInt(1), uint(n)) }

// plus is a number and a small one.
func plus(x *big.Int, y int64) *big.Int { return new(big.Int).Add(x, big.NewInt(y)) }

// signed is the number that one or more bytes are in two's complement.
func signed(b []byte) *big.Int {
	x := new(big.Int).SetBytes(b)
	if len(b) > 0 && b[0] > 127 {
		x.Sub(x, power(8*len(b)))
	}
	return x
}

// inBytes is a number in so many bytes of two's complement, that have room for it.
func inBytes(x *big.Int, n int) []byte {
	if x.Sign() < 0 {
		x = new(big.Int).Add(x, power(8*n))
	}
	return x.FillBytes(make([]byte, n))
}

// complement is a number in as many bytes of two's complement as it needs.
func complement(x *big.Int) []byte {
	n := 1
	for x.Cmp(new(big.Int).Neg(power(8*n-1))) < 0 || x.Cmp(power(8*n-1)) >= 0 {
		n++
	}
	return inBytes(x, n)
}

// isBits asks for the bits that aren't used one by one.
func isBits(b []byte) bool {
	if len(b) == 0 || b[0] > 7 {
		return false
	}
	if len(b) == 1 {
		return b[0] == 0
	}
	for bit := range int(b[0]) {
		if b[len(b)-1]>>bit%2 == 1 {
			return false
		}
	}
	return true
}

// laid is a number in bytes of seven bits, as many as it needs.
func laid(x *big.Int) []byte {
	low, up := byte(x.Uint64()%128), new(big.Int).Rsh(x, 7)
	if up.Sign() == 0 {
		return []byte{low}
	}
	b := laid(up)
	b[len(b)-1] += 128
	return append(b, low)
}

// inSevens are the numbers that whole ones are laid as; false if the last one isn't whole, or one has more bytes than it needs, or there are none.
func inSevens(b []byte) ([]*big.Int, bool) {
	var all []*big.Int
	for len(b) > 0 {
		end := slices.IndexFunc(b, func(x byte) bool { return x < 128 }) + 1
		if end == 0 {
			return nil, false
		}
		x := new(big.Int)
		for _, part := range b[:end] {
			x.Add(x.Mul(x, big.NewInt(128)), big.NewInt(int64(part%128)))
		}
		if !bytes.Equal(laid(x), b[:end]) {
			return nil, false
		}
		all = append(all, x)
		b = b[end:]
	}
	return all, len(all) > 0
}

// isIdentifier asks whether bytes are whole numbers.
func isIdentifier(b []byte) bool {
	_, is := inSevens(b)
	return is
}

// wantedArcs is what the document wants Arcs to answer.
func wantedArcs(b []byte) ([]uint64, api.Errno) {
	all, is := inSevens(b)
	if !is {
		return nil, api.ErrDer
	}
	var arcs []uint64
	for i, big := range all {
		if big.Cmp(power(63)) >= 0 {
			return nil, api.ErrRange
		}
		x := big.Uint64()
		switch {
		case i > 0:
			arcs = append(arcs, x)
		case x < 40:
			arcs = append(arcs, 0, x)
		case x < 80:
			arcs = append(arcs, 1, x-40)
		default:
			arcs = append(arcs, 2, x-80)
		}
	}
	return arcs, api.OK
}

var timeForms = map[int]*regexp.Regexp{
	23: regexp.MustCompile(`\A[0-9]{12}Z\z`),
	24: regexp.MustCompile(`\A[0-9]{14}Z\z`),
}

// moment is what a time's bytes tell, by the library's calendar; false if they are none's.
func moment(tag int, b []byte) ([6]int, bool) {
	form := timeForms[tag]
	if form == nil || !form.Match(b) {
		return [6]int{}, false
	}
	text := string(b)
	if tag == 23 && text[:2] >= "50" {
		text = "19" + text
	} else if tag == 23 {
		text = "20" + text
	}
	at, err := time.Parse("20060102150405Z", text)
	if err != nil {
		return [6]int{}, false
	}
	return [6]int{at.Year(), int(at.Month()), at.Day(), at.Hour(), at.Minute(), at.Second()}, true
}

// wantedTime is what the document wants Time to answer.
func wantedTime(tag int, b []byte) ([6]int, api.Errno) {
	if tag != 23 && tag != 24 {
		return [6]int{}, api.ErrArg
	}
	m, is := moment(tag, b)
	if !is {
		return [6]int{}, api.ErrDer
	}
	return m, api.OK
}

// tags are those that there are, those next to them, and others.
func tags() []int {
	all := []int{math.MinInt, math.MinInt + 1, math.MinInt + 2, math.MaxInt - 1, math.MaxInt, 255, 256, 258, 1<<32 + 5, 1<<62 + 4}
	for tag := -2; tag <= 40; tag++ {
		all = append(all, tag)
	}
	return all
}

// timeless are the tags that are no time's.
func timeless() []int {
	return slices.DeleteFunc(tags(), func(tag int) bool { return tag == 23 || tag == 24 })
}

// handed calls with bytes that have others behind them in their memory, and asks that none of all is changed.
func handed(t *testing.T, b []byte, call func(b []byte)) {
	t.Helper()
	memory := append(slices.Clone(b), 'Z', 0, 255, 1, 128)
	before := slices.Clone(memory)
	call(memory[:len(b)])
	if !bytes.Equal(memory, before) {
		t.Errorf("a call of %v changed its bytes: %v", b, memory)
	}
}

// checks asks Check of bytes.
func checks(t *testing.T, tag int, b []byte, want api.Errno) {
	t.Helper()
	handed(t, b, func(b []byte) {
		if e := dertype.Check(tag, b); e != want {
			t.Errorf("Check(%d, %v): %v; want %v", tag, b, e, want)
		}
	})
}

// numbers asks Number of bytes, and Check of both tags.
func numbers(t *testing.T, b []byte, want int64, wantE api.Errno) {
	t.Helper()
	handed(t, b, func(b []byte) {
		if x, e := dertype.Number(b); x != want || e != wantE {
			t.Errorf("Number(%v): %d, %v; want %d, %v", b, x, e, want, wantE)
		}
	})
	may := wantE
	if wantE == api.ErrLength {
		may = api.OK // Check asks for no length
	}
	checks(t, 2, b, may)
	checks(t, 10, b, may)
}

// arcs asks Arcs of bytes, and Check.
func arcs(t *testing.T, b []byte, want []uint64, wantE api.Errno) {
	t.Helper()
	handed(t, b, func(b []byte) {
		if l, e := dertype.Arcs(b); !slices.Equal(l, want) || e != wantE {
			t.Errorf("Arcs(%v): %v, %v; want %v, %v", b, l, e, want, wantE)
		}
	})
	may := wantE
	if wantE == api.ErrRange {
		may = api.OK // Check asks for no bound
	}
	checks(t, 6, b, may)
}

// bits asks Bits of bytes, and Check.
func bits(t *testing.T, b []byte, want []byte, wantN int, wantE api.Errno) {
	t.Helper()
	handed(t, b, func(b []byte) {
		if l, n, e := dertype.Bits(b); !bytes.Equal(l, want) || n != wantN || e != wantE {
			t.Errorf("Bits(%v): %v, %d, %v; want %v, %d, %v", b, l, n, e, want, wantN, wantE)
		}
	})
	checks(t, 3, b, wantE)
}

// times asks Time of a text, and Check.
func times(t *testing.T, tag int, text string, want [6]int, wantE api.Errno) {
	t.Helper()
	b := []byte(text)
	handed(t, b, func(b []byte) {
		if m, e := dertype.Time(tag, b); m != want || e != wantE {
			t.Errorf("Time(%d, %q): %v, %v; want %v, %v", tag, text, m, e, want, wantE)
		}
	})
	if wantE != api.ErrArg {
		checks(t, tag, b, wantE)
	}
}
