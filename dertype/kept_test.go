package dertype_test

import (
	"bytes"
	"slices"
	"sync"
	"testing"

	"passepartout/api"
	"passepartout/dertype"
)

// Rule 4: what Bits answers shares nothing with what was handed in, nor with another answer, also behind its length.
func TestBitsShareNothing(t *testing.T) {
	handed := []byte{4, 1, 2, 240, 9, 9, 9}
	b, _, _ := dertype.Bits(handed[:4])
	other, _, _ := dertype.Bits(handed[:4])
	b[0], b[2] = 7, 7
	_ = append(b, 5, 5, 5)
	if !bytes.Equal(handed, []byte{4, 1, 2, 240, 9, 9, 9}) {
		t.Errorf("a changed answer changed what was handed in: %v", handed)
	}
	if !bytes.Equal(other, []byte{1, 2, 240}) {
		t.Errorf("a changed answer changed another one: %v", other)
	}
	clear(handed)
	if !bytes.Equal(other, []byte{1, 2, 240}) {
		t.Errorf("what was handed in, changed, changed an answer: %v", other)
	}
}

// Rule 4: what lies behind the length of what was handed in isn't told by what is answered.
func TestBitsTellNothingBehind(t *testing.T) {
	handed := []byte{0, 1, 2, 3, 77, 77, 77, 77, 77, 77, 77, 77}
	b, _, _ := dertype.Bits(handed[:4])
	if slices.Contains(b[:cap(b)], 77) {
		t.Errorf("an answer tells what lies behind a list's length: %v", b[:cap(b)])
	}
}

// Rule 4: what Arcs answers shares nothing with another answer.
func TestArcsShareNothing(t *testing.T) {
	handed := []byte{42, 134, 72, 134, 247, 13}
	l, _ := dertype.Arcs(handed)
	other, _ := dertype.Arcs(handed)
	clear(l)
	_ = append(l, 5, 5, 5)
	if !slices.Equal(other, []uint64{1, 2, 840, 113549}) {
		t.Errorf("a changed answer changed another one: %v", other)
	}
	clear(handed)
	if !slices.Equal(other, []uint64{1, 2, 840, 113549}) {
		t.Errorf("what was handed in, changed, changed an answer: %v", other)
	}
}

// Rule 7: what was asked ahead, right or wrong, plays no part.
func TestAskedAgain(t *testing.T) {
	for range 3 {
		arcs(t, []byte{42, 128}, nil, api.ErrDer)
		arcs(t, []byte{85, 4, 3}, []uint64{2, 5, 4, 3}, api.OK)
		arcs(t, append(bytes.Repeat([]byte{255}, 9), 1), nil, api.ErrRange)
		arcs(t, []byte{5}, []uint64{0, 5}, api.OK)
		bits(t, []byte{3, 1}, nil, 0, api.ErrDer)
		bits(t, []byte{3, 8}, []byte{8}, 3, api.OK)
		numbers(t, make([]byte, 12), 0, api.ErrDer)
		numbers(t, []byte{251}, -5, api.OK)
		times(t, 22, "260228120000Z", [6]int{}, api.ErrArg)
		times(t, 23, "260228120000Z", [6]int{2026, 2, 28, 12, 0, 0}, api.OK)
		checks(t, 7, nil, api.ErrArg)
		checks(t, 5, nil, api.OK)
	}
}

// Rules 6 and 7: many goroutines at a time, that ask of the same bytes, are answered as one is.
func TestManyAtATime(t *testing.T) {
	all := [][]byte{{}, {0}, {255}, {3, 8}, {42, 134, 72}, {0, 128}, {255, 128}, []byte("260228120000Z"), []byte("20260228120000Z")}
	var askers sync.WaitGroup
	for range 8 {
		askers.Go(func() {
			for _, tag := range tags() {
				for _, b := range all {
					want, wantE := wantedTime(tag, b)
					if m, e := dertype.Time(tag, b); m != want || e != wantE {
						t.Errorf("Time(%d, %v): %v, %v", tag, b, m, e)
					}
					if e := dertype.Check(tag, b); e != wanted(tag, b) {
						t.Errorf("Check(%d, %v): %v", tag, b, e)
					}
				}
			}
			for _, b := range all {
				want, wantE := wantedArcs(b)
				if l, e := dertype.Arcs(b); !slices.Equal(l, want) || e != wantE {
					t.Errorf("Arcs(%v): %v, %v", b, l, e)
				}
				if _, _, e := dertype.Bits(b); (e == api.OK) != isBits(b) {
					t.Errorf("Bits(%v): %v", b, e)
				}
				if _, e := dertype.Number(b); (e != api.ErrDer) != mayBe(2, b) {
					t.Errorf("Number(%v): %v", b, e)
				}
			}
		})
	}
	askers.Wait()
}
