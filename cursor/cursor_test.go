package cursor_test

import (
	"bytes"
	"math"
	"slices"
	"testing"

	"passepartout/api"
	"passepartout/cursor"
)

const greatestBase = 1 << 40

// row is n bytes that differ from their neighbours, none of them 0 among the first 255.
func row(n int) []byte {
	b := make([]byte, n)
	for i := range b {
		b[i] = byte(i%255 + 1)
	}
	return b
}

// stands asks of a cursor all that it tells without moving.
func stands(t *testing.T, what string, c *cursor.Cursor, at, left int) {
	t.Helper()
	if c == nil {
		t.Fatalf("%s: no cursor", what)
	}
	if c.At() != at || c.Left() != left || c.End() != at+left {
		t.Errorf("%s: at %d, left %d, end %d; want %d, %d, %d", what, c.At(), c.Left(), c.End(), at, left, at+left)
	}
}

// number asks for a number that there is.
func number(t *testing.T, c *cursor.Cursor, size int, want uint64) {
	t.Helper()
	if x, e := c.Number(size); x != want || e != api.OK {
		t.Errorf("Number(%d): %d, %v; want %d", size, x, e, want)
	}
}

// take asks for bytes that there are.
func take(t *testing.T, c *cursor.Cursor, want []byte) {
	t.Helper()
	if b, e := c.Take(len(want)); !bytes.Equal(b, want) || e != api.OK {
		t.Errorf("Take(%d): %v, %v; want %v", len(want), b, e, want)
	}
}

// sub asks for a cursor that there is.
func sub(t *testing.T, c *cursor.Cursor, n int) *cursor.Cursor {
	t.Helper()
	s, e := c.Sub(n)
	if s == nil || e != api.OK {
		t.Fatalf("Sub(%d): %v, %v", n, s, e)
	}
	return s
}

// refusesNumber asks that a number is refused, with nothing beside the error, and that nothing moved.
func refusesNumber(t *testing.T, c *cursor.Cursor, size int, want api.Errno) {
	t.Helper()
	at, left, end := c.At(), c.Left(), c.End()
	if x, e := c.Number(size); x != 0 || e != want {
		t.Errorf("Number(%d): %d, %v; want 0, %v", size, x, e, want)
	}
	if c.At() != at || c.Left() != left || c.End() != end {
		t.Errorf("Number(%d), refused, moved the cursor", size)
	}
}

// refusesBytes asks the same of Take and of Sub.
func refusesBytes(t *testing.T, c *cursor.Cursor, n int, want api.Errno) {
	t.Helper()
	at, left, end := c.At(), c.Left(), c.End()
	if b, e := c.Take(n); len(b) != 0 || e != want {
		t.Errorf("Take(%d): %v, %v; want nothing, %v", n, b, e, want)
	}
	if s, e := c.Sub(n); s != nil || e != want {
		t.Errorf("Sub(%d): %v, %v; want nil, %v", n, s, e, want)
	}
	if c.At() != at || c.Left() != left || c.End() != end {
		t.Errorf("Take(%d) or Sub(%d), refused, moved the cursor", n, n)
	}
}

func TestExampleOfTheChapter(t *testing.T) {
	c := cursor.New([]byte{1, 2, 3, 4}, 10)
	number(t, c, 2, 258)
	stands(t, "behind the number", c, 12, 2)
	stands(t, "the sub", sub(t, c, 1), 12, 1)
	refusesNumber(t, c, 2, api.ErrShort)
	stands(t, "at last", c, 13, 1)
}

// P1.1: where a new cursor is, and where it is behind each byte.
func TestNewAtLeftEnd(t *testing.T) {
	for _, base := range []int{0, 1, 10, greatestBase - 1, greatestBase} {
		stands(t, "of nil bytes", cursor.New(nil, base), base, 0)
		stands(t, "of no bytes", cursor.New([]byte{}, base), base, 0)
		for _, n := range []int{1, 2, 255, 256, 1000} {
			c := cursor.New(row(n), base)
			for i := range n {
				stands(t, "on the way", c, base+i, n-i)
				number(t, c, 1, uint64(row(n)[i]))
			}
			stands(t, "behind all", c, base+n, 0)
		}
	}
}

// P1.1: telling where it is moves nothing.
func TestAskingMovesNothing(t *testing.T) {
	c := cursor.New(row(3), 5)
	for range 4 {
		stands(t, "asked again", c, 5, 3)
	}
	take(t, c, row(3))
}

// P1.2: each size, the highest byte first.
func TestNumberIsHighestFirst(t *testing.T) {
	b := []byte{0x81, 0x02, 0x83, 0x04, 0x85, 0x06, 0x87, 0x08, 0x99}
	for _, x := range []struct {
		size int
		want uint64
	}{{1, 0x81}, {2, 0x8102}, {3, 0x810283}, {4, 0x81028304}, {8, 0x8102830485068708}} {
		c := cursor.New(b, 7)
		number(t, c, x.size, x.want)
		stands(t, "behind the number", c, 7+x.size, len(b)-x.size)
		number(t, c, 1, uint64(b[x.size]))
	}
}

// P1.2: the least and the greatest number of each size, of no more bytes than these.
func TestNumberLeastAndGreatest(t *testing.T) {
	for _, x := range []struct {
		size     int
		greatest uint64
	}{{1, 255}, {2, 65535}, {3, 1<<24 - 1}, {4, math.MaxUint32}, {8, math.MaxUint64}} {
		c := cursor.New(make([]byte, x.size), 0)
		number(t, c, x.size, 0)
		stands(t, "behind the least", c, x.size, 0)
		c = cursor.New(bytes.Repeat([]byte{255}, x.size), greatestBase)
		number(t, c, x.size, x.greatest)
		stands(t, "behind the greatest", c, greatestBase+x.size, 0)
	}
}

// P1.2: one byte too few of each size, at the beginning and further on.
func TestNumberShort(t *testing.T) {
	for _, size := range []int{1, 2, 3, 4, 8} {
		refusesNumber(t, cursor.New(nil, 3), size, api.ErrShort)
		c := cursor.New(row(size-1), 3)
		refusesNumber(t, c, size, api.ErrShort)
		take(t, c, row(size-1))
		c = cursor.New(row(size+1), 3)
		number(t, c, 1, 1)
		number(t, c, 1, 2)
		refusesNumber(t, c, size, api.ErrShort)
		take(t, c, row(size + 1)[2:])
	}
}

// P1.2: sizes that are none, also such that would be one in fewer bits, and where bytes are missing too: ErrArg goes ahead of ErrShort.
func TestNumberOfNoSize(t *testing.T) {
	wrong := []int{math.MinInt, math.MinInt + 1, math.MinInt + 8, math.MinInt32, math.MaxInt32, math.MaxInt - 1, math.MaxInt}
	for _, size := range []int{1, 2, 3, 4, 8} {
		wrong = append(wrong, 1<<8+size, 1<<16+size, 1<<32+size)
	}
	for size := -70; size <= 70; size++ {
		if !slices.Contains([]int{1, 2, 3, 4, 8}, size) {
			wrong = append(wrong, size)
		}
	}
	for _, b := range [][]byte{nil, row(1), row(7), row(100), row(300)} {
		c := cursor.New(b, 9)
		for _, size := range wrong {
			refusesNumber(t, c, size, api.ErrArg)
		}
		take(t, c, b)
	}
}

// P1.2: Take of 0, of some, of all that is left.
func TestTake(t *testing.T) {
	b := row(20)
	c := cursor.New(b, 100)
	take(t, c, nil)
	stands(t, "behind nothing", c, 100, 20)
	take(t, c, b[:1])
	stands(t, "behind one", c, 101, 19)
	take(t, c, b[1:8])
	stands(t, "behind eight", c, 108, 12)
	take(t, c, b[8:])
	stands(t, "behind all", c, 120, 0)
	take(t, c, nil)
	stands(t, "behind all, still", c, 120, 0)
}

// P1.2: Sub of 0, of some, of all that is left.
func TestSub(t *testing.T) {
	b := row(20)
	c := cursor.New(b, 100)
	stands(t, "a sub of nothing", sub(t, c, 0), 100, 0)
	stands(t, "behind nothing", c, 100, 20)
	s := sub(t, c, 8)
	stands(t, "a sub of eight", s, 100, 8)
	stands(t, "behind eight", c, 108, 12)
	take(t, s, b[:8])
	s = sub(t, c, 12)
	stands(t, "a sub of the rest", s, 108, 12)
	stands(t, "behind all", c, 120, 0)
	take(t, s, b[8:])
	stands(t, "a sub behind all", sub(t, c, 0), 120, 0)
	stands(t, "of no bytes", sub(t, cursor.New(nil, greatestBase), 0), greatestBase, 0)
}

// P1.2: one more than are left, and far more.
func TestTakeAndSubShort(t *testing.T) {
	for n := range 6 {
		c := cursor.New(row(5), 2)
		take(t, c, row(5)[:n])
		for _, more := range []int{5 - n + 1, 5 - n + 2, 256 + 5 - n, math.MaxInt32, 1 << 32, math.MaxInt - 1, math.MaxInt} {
			refusesBytes(t, c, more, api.ErrShort)
		}
		take(t, c, row(5)[n:])
	}
}

// P1.2: below 0, also where nothing is left.
func TestTakeAndSubBelowNothing(t *testing.T) {
	for _, b := range [][]byte{nil, row(1), row(5)} {
		c := cursor.New(b, greatestBase)
		for _, n := range []int{-1, -2, -5, -256, -1 << 32, math.MinInt32, math.MinInt + 1, math.MinInt} {
			refusesBytes(t, c, n, api.ErrArg)
		}
		take(t, c, b)
	}
}

// P1.2: a sub ends where it ends, though bytes stand behind it, and asking it moves it alone.
func TestSubIsOnItsOwn(t *testing.T) {
	b := row(20)
	c := cursor.New(b, 0)
	take(t, c, b[:2])
	s := sub(t, c, 5)
	refusesBytes(t, s, 6, api.ErrShort)
	refusesNumber(t, s, 8, api.ErrShort)
	take(t, c, b[7:10])
	stands(t, "the sub stayed", s, 2, 5)
	take(t, s, b[2:7])
	stands(t, "the cursor stayed", c, 10, 10)
	refusesNumber(t, s, 1, api.ErrShort)
	refusesBytes(t, s, 1, api.ErrShort)
}

// P1.2, P1.3: a sub of a sub, whose places are those of the whole.
func TestSubOfSub(t *testing.T) {
	b := row(30)
	for _, base := range []int{0, 50, greatestBase} {
		c := cursor.New(b, base)
		take(t, c, b[:3])
		s := sub(t, c, 20)
		take(t, s, b[3:5])
		u := sub(t, s, 10)
		stands(t, "a sub's sub", u, base+5, 10)
		if u.End() != s.At() || s.End() != c.At() {
			t.Error("a sub's end isn't where the cursor is:", u.End(), s.At(), s.End(), c.At())
		}
		refusesBytes(t, u, 11, api.ErrShort)
		w := sub(t, u, 10)
		stands(t, "the third, of all", w, base+5, 10)
		refusesBytes(t, w, 11, api.ErrShort)
		take(t, w, b[5:15])
		take(t, s, b[15:23])
		take(t, c, b[23:])
		stands(t, "the sub's sub, behind all", u, base+15, 0)
		stands(t, "the third, behind all", w, base+15, 0)
	}
}

// P1.3: whatever is asked, in whatever order: what is taken is what there was, and a sub ends where the cursor is then.
func TestWhatIsTakenIsWhatThereWas(t *testing.T) {
	b := row(9)
	var walk func(asked []int)
	walk = func(asked []int) {
		follow(t, b, asked)
		if len(asked) < 4 {
			for ask := range asks {
				walk(append(asked[:len(asked):len(asked)], ask))
			}
		}
	}
	walk(nil)
}

// The questions of a walk: Number of sizes 0 to 8, Take of -1 to 3, Sub of -1 to 3.
const (
	numbers = 9
	takes   = 5
	asks    = numbers + 2*takes
)

// follow puts the questions to one cursor, and holds it against a place in the bytes.
func follow(t *testing.T, b []byte, asked []int) {
	c := cursor.New(b, 40)
	at := 0
	for _, ask := range asked {
		var got []byte
		var e api.Errno
		n := ask
		switch {
		case ask < numbers:
			var x uint64
			x, e = c.Number(n)
			for i := range n {
				got = append(got, byte(x>>(8*(n-1-i))))
			}
		case ask < numbers+takes:
			n = ask - numbers - 1
			got, e = c.Take(n)
		default:
			var s *cursor.Cursor
			n = ask - numbers - takes - 1
			s, e = c.Sub(n)
			got = all(t, s, c)
		}
		if want := verdict(ask < numbers, n, len(b)-at); e != want {
			t.Fatal(asked, ask, e, want)
		} else if want == api.OK {
			if !bytes.Equal(got, b[at:at+n]) {
				t.Fatal(asked, ask, got)
			}
			at += n
		}
		stands(t, "on a walk", c, 40+at, len(b)-at)
	}
	take(t, c, b[at:])
}

// all are the bytes of a sub that the cursor just handed out, or none if it handed out none.
func all(t *testing.T, s, c *cursor.Cursor) []byte {
	if s == nil {
		return nil
	}
	if s.End() != c.At() {
		t.Fatal("a sub's end isn't where the cursor is:", s.End(), c.At())
	}
	b, _ := s.Take(s.Left())
	return b
}

// verdict is the error that the chapter asks for.
func verdict(isNumber bool, n, left int) api.Errno {
	switch {
	case isNumber && !slices.Contains([]int{1, 2, 3, 4, 8}, n), n < 0:
		return api.ErrArg
	case n > left:
		return api.ErrShort
	}
	return api.OK
}

// The line in brackets: of a nil cursor, at all arguments, ErrNil ahead of all others.
func TestNilCursor(t *testing.T) {
	var none *cursor.Cursor
	if none.At() != 0 || none.Left() != 0 || none.End() != 0 {
		t.Error(none.At(), none.Left(), none.End())
	}
	for _, n := range []int{math.MinInt, -1, 0, 1, 2, 3, 4, 5, 8, 9, math.MaxInt} {
		refusesNumber(t, none, n, api.ErrNil)
		refusesBytes(t, none, n, api.ErrNil)
	}
}

// Rule 4: what was taken may be changed, and appended to, and nothing else changes.
func TestTakenBytesAreOwn(t *testing.T) {
	b := row(10)
	c := cursor.New(b, 0)
	s := sub(t, cursor.New(b, 0), 10)
	first, _ := c.Take(3)
	second, _ := s.Take(3)
	for i := range first {
		first[i] = 200
	}
	first = append(first, 201, 202, 203)
	if !bytes.Equal(b, row(10)) || !bytes.Equal(second, row(3)) {
		t.Error(b, second)
	}
	take(t, c, row(10)[3:])
	take(t, s, row(10)[3:])
	clear(b)
	if !bytes.Equal(first, []byte{200, 200, 200, 201, 202, 203}) || !bytes.Equal(second, row(3)) {
		t.Error(first, second)
	}
}

// Rule 4: what lies behind the bytes in their memory is neither read nor handed out.
func TestBytesBehindTheEnd(t *testing.T) {
	memory := row(64)
	c := cursor.New(memory[:4], 0)
	stands(t, "of a part", c, 0, 4)
	refusesNumber(t, c, 8, api.ErrShort)
	refusesBytes(t, c, 5, api.ErrShort)
	s := sub(t, c, 3)
	refusesBytes(t, s, 4, api.ErrShort)
	b, _ := s.Take(3)
	for _, x := range b[:cap(b)][3:] {
		if x != 0 {
			t.Error("a byte behind the end was handed out:", x)
		}
	}
	if !bytes.Equal(memory, row(64)) {
		t.Error("the bytes that were handed in were changed")
	}
}

// P2: two cursors of the same bytes, made apart.
func TestCursorsApart(t *testing.T) {
	b := row(8)
	c, d := cursor.New(b, 0), cursor.New(b, 0)
	take(t, c, b[:5])
	stands(t, "the other one", d, 0, 8)
	number(t, d, 4, 0x01020304)
	stands(t, "the first one", c, 5, 3)
}
