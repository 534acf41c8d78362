package dertag_test

import (
	"math"
	"testing"

	"passepartout/api"
	"passepartout/dertag"
)

// asks asks Kind of a thing.
func asks(t *testing.T, class, tag int, made bool) {
	t.Helper()
	want := api.ErrDer
	if thereIs(class, tag, made) {
		want = api.OK
	}
	if e := dertag.Kind(class, tag, made); e != want {
		t.Errorf("Kind(%d, %d, %t): %v; want %v", class, tag, made, e, want)
	}
}

// P9.1: every class and tag, those next to them that there aren't, and the least and the greatest of ints.
func TestKind(t *testing.T) {
	classes := []int{math.MinInt, math.MinInt + 1, math.MinInt + 2, -2, -1, 0, 1, 2, 3, 4, 5, math.MaxInt - 1, math.MaxInt}
	tags := []int{math.MinInt, math.MinInt + 1, math.MinInt + 2, math.MaxInt - 1, math.MaxInt}
	for tag := -2; tag <= 300; tag++ {
		tags = append(tags, tag)
	}
	for _, class := range classes {
		for _, tag := range tags {
			asks(t, class, tag, false)
			asks(t, class, tag, true)
		}
	}
}

// P9.1: so many things there are, and no others.
func TestKindOfThings(t *testing.T) {
	if len(things()) != 17+2+62 {
		t.Fatal("the test's own things are wrong")
	}
	for _, h := range things() {
		if e := dertag.Kind(h.Class, h.Tag, h.Made); e != api.OK {
			t.Errorf("Kind of %v: %v", h, e)
		}
	}
	for _, h := range noThings() {
		if e := dertag.Kind(h.Class, h.Tag, h.Made); e != api.ErrDer {
			t.Errorf("Kind of %v: %v", h, e)
		}
	}
}

// P9.1: what stands beside the class and tag: who is made of others, who isn't, who may be either.
func TestKindOfMade(t *testing.T) {
	for _, c := range []struct {
		class, tag  int
		plain, made api.Errno
	}{
		{0, 0, api.ErrDer, api.ErrDer}, {0, 1, api.OK, api.ErrDer}, {0, 4, api.OK, api.ErrDer}, {0, 7, api.ErrDer, api.ErrDer},
		{0, 9, api.ErrDer, api.ErrDer}, {0, 11, api.ErrDer, api.ErrDer}, {0, 13, api.ErrDer, api.ErrDer}, {0, 15, api.ErrDer, api.ErrDer},
		{0, 16, api.ErrDer, api.OK}, {0, 17, api.ErrDer, api.OK}, {0, 18, api.OK, api.ErrDer}, {0, 21, api.ErrDer, api.ErrDer},
		{0, 25, api.ErrDer, api.ErrDer}, {0, 30, api.OK, api.ErrDer}, {0, 31, api.ErrDer, api.ErrDer}, {1, 2, api.ErrDer, api.ErrDer},
		{2, 0, api.OK, api.OK}, {2, 30, api.OK, api.OK}, {2, 31, api.ErrDer, api.ErrDer}, {3, 16, api.ErrDer, api.ErrDer},
	} {
		if e := dertag.Kind(c.class, c.tag, false); e != c.plain {
			t.Errorf("Kind(%d, %d, false): %v", c.class, c.tag, e)
		}
		if e := dertag.Kind(c.class, c.tag, true); e != c.made {
			t.Errorf("Kind(%d, %d, true): %v", c.class, c.tag, e)
		}
	}
}

// P9.3: the bytes of every thing, at every edge of its length.
func TestPut(t *testing.T) {
	puts(t, dertag.Head{Tag: 5}, []byte{5, 0}, api.OK)
	puts(t, dertag.Head{Tag: 4, Len: 127}, []byte{4, 127}, api.OK)
	puts(t, dertag.Head{Tag: 4, Len: 128}, []byte{4, 129, 128}, api.OK)
	puts(t, dertag.Head{Tag: 16, Made: true, Len: 255}, []byte{48, 129, 255}, api.OK)
	puts(t, dertag.Head{Tag: 17, Made: true, Len: 256}, []byte{49, 130, 1, 0}, api.OK)
	puts(t, dertag.Head{Class: 2, Len: 65535}, []byte{128, 130, 255, 255}, api.OK)
	puts(t, dertag.Head{Class: 2, Tag: 30, Made: true, Len: 65536}, []byte{190, 131, 1, 0, 0}, api.OK)
	puts(t, dertag.Head{Class: 2, Tag: 30, Len: 1<<24 - 1}, []byte{158, 131, 255, 255, 255}, api.OK)
	for _, h := range things() {
		for _, n := range lengths() {
			puts(t, ofLength(h, n), headBytes(ofLength(h, n)), api.OK)
		}
	}
}

// P9.3: lengths that may not be.
func TestPutOfWrongLengths(t *testing.T) {
	for _, h := range things() {
		for _, n := range wrongLengths() {
			puts(t, ofLength(h, n), nil, api.ErrLength)
		}
	}
}

// P9.3: things that there aren't, and that Kind's error goes ahead of the length's.
func TestPutOfNoThings(t *testing.T) {
	for _, h := range noThings() {
		for _, n := range []int{0, 5, 128, api.MaxSpan} {
			puts(t, ofLength(h, n), nil, api.ErrDer)
		}
		for _, n := range wrongLengths() {
			puts(t, ofLength(h, n), nil, api.ErrDer)
		}
	}
}

// Rule 4: what Put answers is the asker's, also what lies behind it in its memory: another answer isn't changed by it.
func TestPutsAreApart(t *testing.T) {
	for _, h := range things() {
		for _, n := range lengths() {
			h := ofLength(h, n)
			first, _ := dertag.Put(h)
			second, _ := dertag.Put(h)
			whole := first[:cap(first)]
			for i := range whole {
				whole[i] = 77
			}
			if want := headBytes(h); string(second) != string(want) {
				t.Errorf("Put(%v), behind an answer that was changed: %v; want %v", h, second, want)
			}
			puts(t, h, headBytes(h), api.OK)
		}
	}
}
