package der_test

import (
	"bytes"
	"slices"
	"sync"
	"testing"

	"passepartout/api"
	"passepartout/der"
)

// spoilt is what lies behind a list's length in the memory of roomy things, and spoiltByte behind bytes.
var spoilt = api.Node{Class: 3, Tag: 77, B: []byte{77}}

const spoiltByte = 0xa5

// roomy is an equal thing that shares no memory, and has room behind each list. Its empty lists aren't nil.
func roomy(n api.Node) api.Node {
	b := append(slices.Clone(n.B), spoiltByte, spoiltByte)
	l := make([]api.Node, len(n.L), len(n.L)+2)
	for i := range l {
		l[i] = roomy(n.L[i])
	}
	l = append(l, spoilt, spoilt)
	n.B, n.L = b[:len(n.B)], l[:len(n.L)]
	return n
}

// untouched asks whether all that lies behind the lists of a roomy thing is as it was.
func untouched(n api.Node) bool {
	b, l := n.B[:len(n.B)+2], n.L[:len(n.L)+2]
	return b[len(n.B)] == spoiltByte && b[len(n.B)+1] == spoiltByte &&
		equal(l[len(n.L)], spoilt) && equal(l[len(n.L)+1], spoilt) &&
		!slices.ContainsFunc(n.L, func(in api.Node) bool { return !untouched(in) })
}

// someThings are right ones and wrong ones of all sorts.
func someThings() []api.Node {
	next := chance(11)
	all := []api.Node{{}, prim(5), prim(4, 1, 2, 3), prim(1, 7), prim(31), plain(3), seq(), {Tag: 16, Made: true, B: []byte{1}}, {Tag: 4, L: []api.Node{prim(5)}}, inSeqs(prim(5), 7), inSeqs(prim(5), 8)}
	for range 200 {
		all = append(all, anyThing(1+next(5), next))
	}
	return all
}

// Rule 4: no call changes what it was handed, nor what lies behind it, and what lies there plays no part.
func TestCallsChangeNothing(t *testing.T) {
	for _, n := range someThings() {
		a, b := roomy(n), roomy(n)
		checks(t, a, wanted(n))
		if !der.Same(a, b) || der.Depth(a) != depthOf(n) {
			t.Fatalf("%v: other memory, another answer", n)
		}
		if !equal(a, n) || !equal(b, n) || !untouched(a) || !untouched(b) {
			t.Fatalf("%v was changed", n)
		}
	}
}

// spoil changes all the memory of a thing, also behind its lists.
func spoil(n api.Node) {
	b := n.B[:cap(n.B)]
	for i := range b {
		b[i] = 77
	}
	for _, in := range n.L {
		spoil(in)
	}
	l := n.L[:cap(n.L)]
	for i := range l {
		l[i] = spoilt
	}
}

// Rule 4: what Read answers shares nothing with what was handed in, with another answer, or among its own lists.
func TestReadSharesNothing(t *testing.T) {
	for _, n := range someThings() {
		if wanted(n) != api.OK {
			continue
		}
		b := bytesOf(n)
		handed := append(slices.Clone(b), behind...)
		one, _, _ := der.Read(handed[:len(b)], 0)
		two, _, _ := der.Read(handed[:len(b)], 0)
		spoil(one)
		if !bytes.Equal(handed[:len(b)], b) || !bytes.Equal(handed[len(b):], behind) {
			t.Fatalf("a changed answer changed what was handed in: %v", b)
		}
		if !equal(two, n) {
			t.Fatalf("a changed answer changed another one: %v", n)
		}
		clear(handed)
		if !equal(two, n) {
			t.Fatalf("what was handed in, changed, changed an answer: %v", n)
		}
		for i := range two.L { // spoil one of those in it after the other: the others stay
			spoil(two.L[i])
			two.L[i] = spoilt
			for k := i + 1; k < len(two.L); k++ {
				if !equal(two.L[k], n.L[k]) {
					t.Fatalf("a changed thing changed the one beside it: %v", n)
				}
			}
		}
	}
}

// Rule 4: what lies behind the length of what was handed in isn't told by what is answered.
func TestReadTellsNothingBehind(t *testing.T) {
	b := append([]byte{48, 13, 4, 3, 1, 2, 3, 4, 0, 128, 0, 4, 2, 8, 9}, bytes.Repeat([]byte{77}, 100)...)
	n, _, e := der.Read(b[:15], 0)
	if e != api.OK || len(n.L) != 4 {
		t.Fatal(n, e)
	}
	for i, in := range n.L {
		if own := in.B[:cap(in.B)]; slices.Contains(own, 77) || i == 0 && slices.Contains(own, 128) {
			t.Errorf("an answer tells what lies behind: %v", own)
		}
	}
}

// Rule 4: what Write answers shares nothing with what was handed in, nor with another answer.
func TestWriteSharesNothing(t *testing.T) {
	for _, n := range someThings() {
		if wanted(n) != api.OK {
			continue
		}
		handed := roomy(n)
		one, _ := der.Write(handed)
		two, _ := der.Write(handed)
		want := bytesOf(n)
		all := one[:cap(one)]
		for i := range all {
			all[i] = 77
		}
		if !equal(handed, n) || !untouched(handed) {
			t.Fatalf("a changed answer changed what was handed in: %v", n)
		}
		spoil(handed)
		if !bytes.Equal(two, want) {
			t.Fatalf("%v is written as %v, then changed", n, two)
		}
	}
}

// Rule 7: what was asked ahead, right or wrong, plays no part.
func TestAskedAgain(t *testing.T) {
	for range 3 {
		fails(t, bytesOf(inSeqs(prim(5), 8)), 16, api.ErrDeep)
		reads(t, bytesOf(inSeqs(prim(5), 7)), inSeqs(prim(5), 7))
		checks(t, inSeqs(prim(5), 8), api.ErrDeep)
		checks(t, inSeqs(prim(5), 7), api.OK)
		fails(t, []byte{48, 2, 1, 1}, 4, api.ErrShort)
		reads(t, []byte{48, 3, 1, 1, 0}, seq(prim(1, 0)))
		checks(t, seq(prim(1, 1)), api.ErrDer)
		checks(t, seq(prim(1, 0)), api.OK)
	}
}

// Rules 6 and 7: many goroutines at a time, that ask of the same bytes and things, are answered as one is.
func TestManyAtATime(t *testing.T) {
	all := someThings()
	right := slices.DeleteFunc(slices.Clone(all), func(n api.Node) bool { return wanted(n) != api.OK })
	var rows [][]byte
	for _, n := range right {
		rows = append(rows, bytesOf(n))
	}
	var askers sync.WaitGroup
	for range 8 {
		askers.Go(func() {
			for i, b := range rows {
				if n, at, e := der.Read(b, 1); e != api.OK || at != 1+len(b) || !equal(n, right[i]) {
					t.Errorf("Read(%v, 1): %v, %d, %v", b, n, at, e)
				}
				if w, e := der.Write(right[i]); e != api.OK || !bytes.Equal(w, b) {
					t.Errorf("Write(%v): %v, %v", right[i], w, e)
				}
			}
			for _, n := range all {
				if der.Check(n) != wanted(n) || der.Depth(n) != depthOf(n) || !der.Same(n, n) {
					t.Errorf("%v: %v, %d", n, der.Check(n), der.Depth(n))
				}
			}
		})
	}
	askers.Wait()
}
