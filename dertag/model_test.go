package dertag_test

import (
	"bytes"
	"math"
	"slices"
	"testing"

	"passepartout/api"
	"passepartout/dertag"
)

// The document's tags of the class 0.
var (
	notMade = []int{1, 2, 3, 4, 5, 6, 10, 12, 18, 19, 20, 22, 26, 28, 30, 23, 24}
	isMade  = []int{16, 17}
)

// thereIs asks whether there is such a thing, by the document's words.
func thereIs(class, tag int, made bool) bool {
	if class == 2 {
		return 0 <= tag && tag <= 30
	}
	if made {
		return class == 0 && slices.Contains(isMade, tag)
	}
	return class == 0 && slices.Contains(notMade, tag)
}

// things are all that there are, as heads of the length 0.
func things() []dertag.Head {
	var all []dertag.Head
	for _, tag := range notMade {
		all = append(all, dertag.Head{Tag: tag})
	}
	for _, tag := range isMade {
		all = append(all, dertag.Head{Tag: tag, Made: true})
	}
	for tag := range 31 {
		all = append(all, dertag.Head{Class: 2, Tag: tag}, dertag.Head{Class: 2, Tag: tag, Made: true})
	}
	return all
}

// noThings are heads of the length 0, of things that there aren't, those among them that look like one if only a part of their bits is asked.
func noThings() []dertag.Head {
	var all []dertag.Head
	add := func(class, tag int) {
		for _, made := range []bool{false, true} {
			if !thereIs(class, tag, made) {
				all = append(all, dertag.Head{Class: class, Tag: tag, Made: made})
			}
		}
	}
	for class := -2; class <= 5; class++ {
		for tag := -2; tag <= 33; tag++ {
			add(class, tag)
		}
		add(class, math.MinInt)
		add(class, math.MaxInt)
	}
	for tag := -2; tag <= 33; tag++ {
		for _, up := range []int{5, 6, 8, 16, 31, 32, 62} {
			for _, class := range []int{0, 2} {
				add(class, tag+1<<up)
				add(class, tag-1<<up)
				add(class+1<<up, tag)
				add(class-1<<up, tag)
			}
		}
		for _, class := range []int{math.MinInt, math.MinInt + 2, math.MaxInt - 1, math.MaxInt} {
			add(class, tag)
			add(class, math.MinInt+tag+2)
			add(class, math.MaxInt)
		}
	}
	return all
}

// digits are a number's in the base 256, the highest first: none of 0.
func digits(n int) []byte {
	if n == 0 {
		return nil
	}
	return append(digits(n/256), byte(n%256))
}

// headBytes are those of a head of a thing that there is, whose length may be.
func headBytes(h dertag.Head) []byte {
	first := h.Class*64 + h.Tag
	if h.Made {
		first += 32
	}
	if h.Len < 128 {
		return []byte{byte(first), byte(h.Len)}
	}
	length := digits(h.Len)
	return append([]byte{byte(first), byte(128 + len(length))}, length...)
}

// answer is what Read answers.
type answer struct {
	h  dertag.Head
	at int
	e  api.Errno
}

// got is an answer of what a call answered.
func got(h dertag.Head, at int, e api.Errno) answer { return answer{h, at, e} }

// wanted is what the document wants Read to answer: its errors, in its order.
func wanted(b []byte) answer {
	if len(b) == 0 {
		return answer{at: len(b), e: api.ErrShort}
	}
	h := dertag.Head{Class: int(b[0]) / 64, Tag: int(b[0]) % 32, Made: b[0]/32%2 == 1}
	if !thereIs(h.Class, h.Tag, h.Made) {
		return answer{at: 0, e: api.ErrDer}
	}
	if len(b) == 1 {
		return answer{at: len(b), e: api.ErrShort}
	}
	if b[1] == 128 || b[1] > 131 {
		return answer{at: 1, e: api.ErrDer}
	}
	behind := 2
	h.Len = int(b[1])
	if b[1] > 128 {
		behind += int(b[1]) - 128
		if len(b) < behind {
			return answer{at: len(b), e: api.ErrShort}
		}
		h.Len = 0
		for _, x := range b[2:behind] {
			h.Len = h.Len*256 + int(x)
		}
	}
	if len(headBytes(h)) < behind {
		return answer{at: 1, e: api.ErrDer}
	}
	return answer{h: h, at: behind}
}

// reads asks Read of bytes, with other ones behind them in their memory that aren't theirs, and that none of all is changed.
func reads(t *testing.T, b []byte, want answer) {
	t.Helper()
	memory := append(slices.Clone(b), 1, 2, 3, 4, 5)
	handed := slices.Clone(memory)
	if a := got(dertag.Read(memory[:len(b)])); a != want {
		t.Errorf("Read(%v): %v; want %v", b, a, want)
	}
	if !bytes.Equal(memory, handed) {
		t.Errorf("Read(%v) changed its bytes: %v", b, memory)
	}
}

// fails asks Read of bytes that have an error.
func fails(t *testing.T, b []byte, at int, e api.Errno) {
	t.Helper()
	reads(t, b, answer{at: at, e: e})
}

// puts asks Put of a head, and that nothing stands beside an error.
func puts(t *testing.T, h dertag.Head, want []byte, e api.Errno) {
	t.Helper()
	b, is := dertag.Put(h)
	if is != e || !bytes.Equal(b, want) {
		t.Errorf("Put(%v): %v, %v; want %v, %v", h, b, is, want, e)
	}
}

// ofLength is a head of another length.
func ofLength(h dertag.Head, n int) dertag.Head {
	h.Len = n
	return h
}

// lengths are some that may be, those of each edge among them; wrongLengths are some that may not.
func lengths() []int {
	all := []int{0, 1, 2, 126, 127, 128, 129, 130, 131, 132, 200, 254, 255, 256, 257, 511, 512, 32767, 32768, 65279, 65280, 65534, 65535, 65536, 65537, 1 << 17, 1<<23 - 1, 1 << 23, 1<<24 - 256}
	return append(all, 1<<24-2, 1<<24-1)
}

func wrongLengths() []int {
	return []int{math.MinInt, math.MinInt + 1, math.MinInt + 5, -1 << 32, -1 << 24, -65536, -256, -128, -127, -2, -1, 1 << 24, 1<<24 + 1, 1<<24 + 127, 1<<31 - 1, 1 << 31, 1<<32 - 1, 1 << 32, 1<<32 + 5, 1 << 62, math.MaxInt - 1, math.MaxInt}
}
