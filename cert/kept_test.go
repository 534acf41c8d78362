package cert_test

import (
	"bytes"
	"slices"
	"sync"
	"testing"

	"passepartout/api"
	"passepartout/cert"
)

// spoilt is what lies behind a list's length in the memory of roomy things, and spoiltByte behind bytes.
var spoilt = api.Node{Class: 3, Tag: 77, B: []byte{77}}

const spoiltByte = 0xa5

// roomy is an equal thing that shares no memory, and has room behind each list. Its empty lists aren't nil.
func roomy(n api.Node) api.Node {
	b := append(slices.Clone(n.B), spoiltByte, spoiltByte)
	l := make([]api.Node, len(n.L), len(n.L)+2)
	for i := range l {
		l[i] = roomy(n.L[i])
	}
	l = append(l, spoilt, spoilt)
	n.B, n.L = b[:len(n.B)], l[:len(n.L)]
	return n
}

// equal asks whether two things are.
func equal(a, b api.Node) bool {
	return a.Class == b.Class && a.Tag == b.Tag && a.Made == b.Made && bytes.Equal(a.B, b.B) && slices.EqualFunc(a.L, b.L, equal)
}

// untouched asks whether all that lies behind the lists of a roomy thing is as it was.
func untouched(n api.Node) bool {
	b, l := n.B[:len(n.B)+2], n.L[:len(n.L)+2]
	return b[len(n.B)] == spoiltByte && b[len(n.B)+1] == spoiltByte &&
		equal(l[len(n.L)], spoilt) && equal(l[len(n.L)+1], spoilt) &&
		!slices.ContainsFunc(n.L, func(in api.Node) bool { return !untouched(in) })
}

// someThings are certificates, and such that are none, of all sorts.
func someThings() []api.Node {
	all := []api.Node{{}, prim(5), seq(), seq(prim(2, 1), prim(2, 2), prim(2, 3)), full(), ofVersion(1), ofVersion(2), ofVersion(3), ofVersion(1, plain(1)), ofVersion(2, plain(2), made(3, seq())), inSeqs(prim(5), 8)}
	for _, path := range paths(full()) {
		all = append(all, with(full(), path, prim(5)), with(full(), path, seq()), with(full(), path, prim(1, 7)))
	}
	return all
}

// Rule 4: nothing that was handed in is changed, nor what lies behind it, and what lies there plays no part.
func TestNothingChanged(t *testing.T) {
	for _, n := range someThings() {
		handed := roomy(n)
		want, wantE := wanted(n)
		if c, e := cert.Outer(handed); e != wantE || !same(c, want) {
			t.Fatalf("Outer(%s), with room behind: %v, %v; want %v, %v", short(n), c, e, want, wantE)
		}
		if !equal(handed, n) || !untouched(handed) {
			t.Fatalf("Outer(%s) changed it", short(n))
		}
	}
}

// Rule 4: an empty list may be nil or not.
func TestEmptyLists(t *testing.T) {
	n := ofVersion(3, plain(1), plain(2), made(3, seq()))
	for _, path := range paths(n) {
		for _, b := range [][]byte{nil, {}} {
			for _, l := range [][]api.Node{nil, {}} {
				other := copied(n)
				in := at(&other, path)
				if len(in.B) == 0 {
					in.B = b
				}
				if len(in.L) == 0 {
					in.L = l
				}
				answers(t, other, ofParts(3, 0), api.OK)
			}
		}
	}
}

// Rule 4: the serial number shares nothing with what was handed in, nor with another answer.
func TestSerialSharesNothing(t *testing.T) {
	handed := roomy(full())
	one, _ := cert.Outer(handed)
	two, _ := cert.Outer(handed)
	spoilBytes(one.Serial)
	if !equal(handed, full()) || !untouched(handed) || !same(two, ofParts(3, 2)) {
		t.Fatal("a changed serial number of Outer changed something else")
	}
	clear(at(&handed, serial).B)
	if !same(two, ofParts(3, 2)) {
		t.Fatal("what was handed to Outer, changed, changed an answer")
	}

	b := bytesOf(t, full())
	memory := append(slices.Clone(b), behind...)
	one, _, _ = cert.Read(memory[:len(b)], 0)
	two, _, _ = cert.Read(memory[:len(b)], 0)
	spoilBytes(one.Serial)
	if !bytes.Equal(memory[:len(b)], b) || !bytes.Equal(memory[len(b):], behind) || !same(two, ofParts(3, 2)) {
		t.Fatal("a changed serial number of Read changed something else")
	}
	clear(memory)
	if !same(two, ofParts(3, 2)) {
		t.Fatal("what was handed to Read, changed, changed an answer")
	}
}

// spoilBytes changes bytes, and what lies behind them.
func spoilBytes(b []byte) {
	all := b[:cap(b)]
	for i := range all {
		all[i] = 77
	}
}

// Rule 4: what lies behind the serial number's length tells nothing of what was handed in.
func TestSerialTellsNothingBehind(t *testing.T) {
	handed := full()
	at(&handed, serial).B = append([]byte{9, 8}, bytes.Repeat([]byte{77}, 100)...)[:2]
	c, _ := cert.Outer(handed)
	if slices.Contains(c.Serial[:cap(c.Serial)], 77) {
		t.Errorf("the answer tells what lies behind: %v", c.Serial[:cap(c.Serial)])
	}
	b := bytesOf(t, full())
	c, _, _ = cert.Read(b, 0)
	if slices.ContainsFunc(c.Serial[2:cap(c.Serial)], func(x byte) bool { return x != 0 }) {
		t.Errorf("the answer tells what lies behind: %v", c.Serial[:cap(c.Serial)])
	}
}

// Rule 7: what was asked ahead, right or wrong, plays no part.
func TestAskedAgain(t *testing.T) {
	for range 3 {
		isNone(t, ofVersion(1, plain(1)))
		isOne(t, ofVersion(1))
		isOne(t, full())
		isNone(t, ofVersion(2, made(3, seq())))
		isOne(t, ofVersion(2))
		answers(t, api.Node{}, cert.Cert{}, api.ErrDer)
	}
}

// Rules 6 and 7: many goroutines at a time, that ask of the same things and bytes, are answered as one is.
func TestManyAtATime(t *testing.T) {
	all := someThings()
	b := unhex(t, aWholeOne)
	var askers sync.WaitGroup
	for range 8 {
		askers.Go(func() {
			for _, n := range all {
				want, wantE := wanted(n)
				if c, e := cert.Outer(n); e != wantE || !same(c, want) {
					t.Errorf("Outer(%s): %v, %v", short(n), c, e)
				}
				if c, at, e := cert.Read(b, 1); e != api.OK || at != 1+len(b) || c.Exts != 4 {
					t.Errorf("Read: %v, %d, %v", c, at, e)
				}
			}
		})
	}
	askers.Wait()
}
