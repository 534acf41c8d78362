package der_test

import (
	"bytes"
	"fmt"
	"math"
	"slices"
	"testing"

	"passepartout/api"
	"passepartout/der"
	"passepartout/dertag"
	"passepartout/dertype"
)

// The document's tags of the class 0.
var (
	notMade = []int{1, 2, 3, 4, 5, 6, 10, 12, 18, 19, 20, 22, 26, 28, 30, 23, 24}
	isMade  = []int{16, 17}
)

// bases are those that reads are asked from.
var bases = []int{0, 1, 1 << 40}

// thereIs asks whether there is such a thing.
func thereIs(class, tag int, made bool) bool {
	switch {
	case class == 2:
		return 0 <= tag && tag <= 30
	case class != 0:
		return false
	case made:
		return slices.Contains(isMade, tag)
	}
	return slices.Contains(notMade, tag)
}

// mayBe asks whether bytes may be those of a thing that there is.
func mayBe(class, tag int, made bool, b []byte) bool {
	return made || class == 2 || dertype.Check(tag, b) == api.OK
}

// verdict is what Read is to tell of bytes beside the thing. They are read from the front; ends are those of the things that are open, behind that of all bytes.
func verdict(b []byte) (int, api.Errno) {
	at, ends := 0, []int{len(b)}
	for first := true; first || len(ends) > 1; first = false {
		if len(ends) > 8 {
			return at, api.ErrDeep
		}
		end := ends[len(ends)-1]
		h, n, e := dertag.Read(b[at:end])
		at += n
		switch {
		case e != api.OK:
			return at, e
		case at+h.Len > end:
			return end, api.ErrShort
		case !mayBe(h.Class, h.Tag, h.Made, b[at:at+h.Len]):
			return at, api.ErrDer
		case h.Made:
			ends = append(ends, at+h.Len)
		default:
			at += h.Len
		}
		for len(ends) > 1 && at == ends[len(ends)-1] {
			ends = ends[:len(ends)-1]
		}
	}
	if at < len(b) {
		return at, api.ErrTrail
	}
	return at, api.OK
}

// headBytes are those of a head whose first byte is such a one.
func headBytes(first byte, length int) []byte {
	if length < 128 {
		return []byte{first, byte(length)}
	}
	var digits []byte
	for ; length > 0; length /= 256 {
		digits = append([]byte{byte(length)}, digits...)
	}
	return append([]byte{first, byte(128 + len(digits))}, digits...)
}

// thing are the bytes of a thing whose first byte is such a one, of the bytes in it.
func thing(first byte, in ...[]byte) []byte {
	b := slices.Concat(in...)
	return append(headBytes(first, len(b)), b...)
}

// firstByte is that of a thing that there is.
func firstByte(n api.Node) byte {
	first := n.Class*64 + n.Tag
	if n.Made {
		first += 32
	}
	return byte(first)
}

// bytesOf are a thing's bytes.
func bytesOf(n api.Node) []byte {
	in := [][]byte{n.B}
	for _, x := range n.L {
		in = append(in, bytesOf(x))
	}
	return thing(firstByte(n), in...)
}

// depthOf is the depth of a thing that doesn't hold itself.
func depthOf(n api.Node) int {
	deepest := 0
	for _, x := range n.L {
		deepest = max(deepest, depthOf(x))
	}
	return 1 + deepest
}

// equal asks whether two things are equal that don't hold themselves.
func equal(a, b api.Node) bool {
	return a.Class == b.Class && a.Tag == b.Tag && a.Made == b.Made && bytes.Equal(a.B, b.B) && slices.EqualFunc(a.L, b.L, equal)
}

// question is one that the chapter's sentence on Check asks of a thing, and the error of a yes.
type question struct {
	yes bool
	e   api.Errno
}

// asked is what Check is to answer of a thing, its depth apart.
func asked(n api.Node) api.Errno {
	for _, q := range []question{
		{!thereIs(n.Class, n.Tag, n.Made), api.ErrDer},
		{n.Made && len(n.B) > 0, api.ErrForm},
		{!n.Made && len(n.L) > 0, api.ErrForm},
		{!mayBe(n.Class, n.Tag, n.Made, n.B), api.ErrDer},
	} {
		if q.yes {
			return q.e
		}
	}
	span := len(n.B)
	for _, x := range n.L {
		if e := asked(x); e != api.OK {
			return e
		}
		span += len(bytesOf(x))
	}
	if span > 1<<24-1 {
		return api.ErrLength
	}
	return api.OK
}

// wanted is what Check is to answer.
func wanted(n api.Node) api.Errno {
	if depthOf(n) > 8 {
		return api.ErrDeep
	}
	return asked(n)
}

// behind is what lies behind bytes in their memory: it would go on as a thing.
var behind = []byte{5, 0, 48, 0, 255}

// asksRead asks Read of bytes, from each base, with others behind them in their memory, and that none of all is changed.
func asksRead(t *testing.T, b []byte, want api.Node, at int, e api.Errno) {
	t.Helper()
	memory := append(slices.Clone(b), behind...)
	for _, base := range bases {
		n, where, is := der.Read(memory[:len(b)], base)
		if is != e || where != base+at || !equal(n, want) {
			t.Fatalf("Read(%v, %d): %v, %d, %v; want %v, %d, %v", short(b), base, told(n), where, is, told(want), base+at, e)
		}
	}
	if !bytes.Equal(memory[:len(b)], b) || !bytes.Equal(memory[len(b):], behind) {
		t.Fatalf("Read(%v) changed its bytes", short(b))
	}
}

// short is the beginning of bytes, for a text; told is the beginning of a thing's text.
func short(b []byte) []byte { return b[:min(len(b), 300)] }

func told(n api.Node) string {
	text := fmt.Sprint(n)
	return text[:min(len(text), 600)]
}

// reads asks Read of the bytes of a thing.
func reads(t *testing.T, b []byte, want api.Node) {
	t.Helper()
	asksRead(t, b, want, len(b), api.OK)
}

// fails asks Read of bytes that are no thing.
func fails(t *testing.T, b []byte, at int, e api.Errno) {
	t.Helper()
	asksRead(t, b, api.Node{}, at, e)
}

// held holds Read against the chapter's words: what it tells beside the thing; that the thing is right and has just these bytes, so it is the only one of which that is so; and Write of it.
func held(t *testing.T, b []byte) api.Errno {
	t.Helper()
	wantAt, want := verdict(b)
	n, at, e := der.Read(b, 7)
	if e != want || at != 7+wantAt {
		t.Fatalf("Read(%v, 7): %d, %v; want %d, %v", short(b), at, e, 7+wantAt, want)
	}
	if e != api.OK {
		if !equal(n, api.Node{}) {
			t.Fatalf("Read(%v, 7): %v beside %v", short(b), told(n), e)
		}
		return e
	}
	if wanted(n) != api.OK || !bytes.Equal(bytesOf(n), b) {
		t.Fatalf("Read(%v, 7): %v", short(b), told(n))
	}
	if w, e := der.Write(n); e != api.OK || !bytes.Equal(w, b) {
		t.Fatalf("Write(%v), as it was read of %v: %v, %v", told(n), short(b), short(w), e)
	}
	return api.OK
}

// checks asks Check and Write of a thing, and what is read of what is written.
func checks(t *testing.T, n api.Node, want api.Errno) {
	t.Helper()
	if e := der.Check(n); e != want {
		t.Fatalf("Check(%v): %v; want %v", told(n), e, want)
	}
	b, e := der.Write(n)
	if e != want {
		t.Fatalf("Write(%v): %v; want %v", told(n), e, want)
	}
	if want != api.OK {
		if len(b) > 0 {
			t.Fatalf("Write(%v): %v beside %v", told(n), short(b), e)
		}
		return
	}
	if !bytes.Equal(b, bytesOf(n)) {
		t.Fatalf("Write(%v): %v; want %v", told(n), short(b), short(bytesOf(n)))
	}
	back, at, e := der.Read(b, 1000)
	if e != api.OK || at != 1000+len(b) || !equal(back, n) || !der.Same(back, n) {
		t.Fatalf("Read of %v, written as %v: %v, %d, %v", told(n), short(b), told(back), at, e)
	}
}

// prim is a thing of the class 0 that isn't made of others; plain is one of the class 2.
func prim(tag int, b ...byte) api.Node  { return api.Node{Tag: tag, B: b} }
func plain(tag int, b ...byte) api.Node { return api.Node{Class: 2, Tag: tag, B: b} }

// seq is a sequence, set is a set, made is a thing of the class 2 that is made of others.
func seq(l ...api.Node) api.Node { return api.Node{Tag: 16, Made: true, L: l} }
func set(l ...api.Node) api.Node { return api.Node{Tag: 17, Made: true, L: l} }
func made(tag int, l ...api.Node) api.Node {
	return api.Node{Class: 2, Tag: tag, Made: true, L: l}
}

// inSeqs is a thing in so many sequences, one within the other.
func inSeqs(n api.Node, times int) api.Node {
	for range times {
		n = seq(n)
	}
	return n
}

// tagged are bytes that may be a tag's, and bytes that may not.
type tagged struct {
	tag         int
	may, mayNot []string
}

// ofTags are such, of each tag.
func ofTags() []tagged {
	numbers := tagged{2, []string{"\x00", "\x05", "\x7f", "\x80", "\xff", "\x00\x80", "\xff\x7f", "\x01\x00", "\x80\x00", "\x01twelve bytes."}, []string{"", "\x00\x00", "\x00\x7f", "\xff\x80", "\xff\xff", "\x00\x01\x02"}}
	enumerated := numbers
	enumerated.tag = 10
	all := []tagged{
		{1, []string{"\x00", "\xff"}, []string{"", "\x01", "\xfe", "\x00\x00", "\xff\xff"}},
		numbers,
		{3, []string{"\x00", "\x00\xff", "\x07\x80", "\x01\x02", "\x04\x01\xf0"}, []string{"", "\x01", "\x07", "\x08", "\x08\x00", "\xff\x00", "\x01\x01", "\x07\x40", "\x04\x00\x08"}},
		{5, []string{""}, []string{"\x00", "\x05\x00", "any"}},
		{6, []string{"\x00", "\x7f", "\x2a\x86\x48\x86\xf7\x0d", "\x81\x00", "\x55\x04\x03"}, []string{"", "\x80", "\x2a\x80\x01", "\x80\x01", "\x2a\x86"}},
		enumerated,
		{23, []string{"260228120000Z", "240229235959Z", "491231000000Z", "500101000000Z"}, []string{"", "260229120000Z", "261301000000Z", "260228240000Z", "2602281200Z", "260228120000z", "20260228120000Z", "2602281200000"}},
		{24, []string{"20260228120000Z", "20000229235959Z"}, []string{"", "19000229000000Z", "260228120000Z", "20260228126000Z", "20260228120000.5Z"}},
	}
	for _, tag := range []int{4, 12, 18, 19, 20, 22, 26, 28, 30} {
		all = append(all, tagged{tag, []string{"", "\x00", "\xff", "\x05\x01", "any bytes", "\x80\x80\x80"}, nil})
	}
	return all
}

// ints are classes and tags that there are, those next to them, and the least and the greatest.
func ints() []int {
	all := []int{math.MinInt, math.MinInt + 1, math.MinInt + 2, -1 << 32, 64, 128, 255, 256, 258, 1 << 32, 1<<32 + 2, 1<<32 + 16, math.MaxInt - 1, math.MaxInt}
	for x := -2; x <= 40; x++ {
		all = append(all, x)
	}
	return all
}

// chance tells numbers below the one that it is handed, always the same ones.
func chance(seed uint32) func(below int) int {
	return func(below int) int {
		seed = seed*1664525 + 1013904223
		return int(uint64(seed>>8) * uint64(below) >> 24)
	}
}

// anyThing is some right thing, of a depth up to most.
func anyThing(most int, next func(int) int) api.Node {
	if most == 1 || next(3) == 0 {
		if next(4) == 0 {
			return plain(next(31), anyBytes(next(9), next)...)
		}
		all := ofTags()
		of := all[next(len(all))]
		return prim(of.tag, []byte(of.may[next(len(of.may))])...)
	}
	var l []api.Node
	for range next(5) {
		l = append(l, anyThing(most-1, next))
	}
	return []api.Node{seq(l...), set(l...), made(next(31), l...)}[next(3)]
}

// anyBytes are so many bytes.
func anyBytes(n int, next func(int) int) []byte {
	b := make([]byte, n)
	for i := range b {
		b[i] = byte(next(256))
	}
	return b
}
