package der_test

import (
	"math"
	"slices"
	"testing"

	"passepartout/api"
)

// P11.2: things of every class and tag, made of others and not, with bytes, with things, with both, with neither.
func TestCheckEveryKind(t *testing.T) {
	bytesOrNone := [][]byte{nil, {}, {0}, {1}, {255, 127}, []byte("260228120000Z")}
	thingsOrNone := [][]api.Node{nil, {}, {prim(5)}, {prim(5), seq(plain(3, 1, 2))}, {prim(1)}, {prim(5), prim(31)}, {seq(), prim(4), prim(2, 0, 0)}}
	right := 0
	for _, class := range ints() {
		for _, tag := range ints() {
			for _, b := range bytesOrNone {
				for _, l := range thingsOrNone {
					for _, isMade := range []bool{false, true} {
						n := api.Node{Class: class, Tag: tag, Made: isMade, B: b, L: l}
						want := wanted(n)
						checks(t, n, want)
						if want == api.OK {
							right++
						}
					}
				}
			}
		}
	}
	// Of what isn't made of others, without things in both spellings: 31 tags of the class 2 and 9 of the class 0 may have any of the bytes, the tags 1, 2, 3, 5, 6, 10, 23, 24 so many of them. Of what is, without bytes in both spellings: four of the lists.
	if want := 2*((31+9)*6+1+4+1+2+4+4+1+0) + (31+2)*2*4; right != want {
		t.Errorf("%d things are right; want %d", right, want)
	}
}

// P11.2: what is wrong with one thing, in the document's words.
func TestCheckAlone(t *testing.T) {
	for _, c := range []struct {
		n    api.Node
		want api.Errno
	}{
		{api.Node{}, api.ErrDer},
		{prim(5), api.OK}, {prim(16), api.ErrDer}, {prim(0), api.ErrDer}, {prim(31), api.ErrDer}, {prim(-1), api.ErrDer}, {prim(math.MaxInt), api.ErrDer},
		{api.Node{Tag: 5, Made: true}, api.ErrDer}, {api.Node{Tag: 4, Made: true, B: []byte{1}}, api.ErrDer}, {api.Node{Tag: 16, L: []api.Node{prim(5)}}, api.ErrDer},
		{api.Node{Class: 1, Tag: 5}, api.ErrDer}, {api.Node{Class: 3, Tag: 16, Made: true}, api.ErrDer}, {api.Node{Class: math.MinInt, Tag: 5}, api.ErrDer}, {api.Node{Class: 4, Tag: 5}, api.ErrDer},
		{seq(), api.OK}, {set(), api.OK}, {made(0), api.OK}, {plain(0), api.OK}, {made(30), api.OK}, {plain(30), api.OK}, {made(31), api.ErrDer}, {plain(31), api.ErrDer},
		{api.Node{Tag: 16, Made: true, B: []byte{1}}, api.ErrForm}, {api.Node{Class: 2, Made: true, B: []byte{5, 0}}, api.ErrForm}, {api.Node{Tag: 16, Made: true, B: []byte{5, 0}, L: []api.Node{prim(5)}}, api.ErrForm},
		{api.Node{Tag: 4, L: []api.Node{prim(5)}}, api.ErrForm}, {api.Node{Class: 2, Tag: 4, L: []api.Node{prim(5)}}, api.ErrForm}, {api.Node{Tag: 4, B: []byte{5, 0}, L: []api.Node{prim(5)}}, api.ErrForm},
		{api.Node{Tag: 16, Made: true, B: []byte{}}, api.OK}, {api.Node{Tag: 5, L: []api.Node{}}, api.OK}, {api.Node{Class: 2, B: []byte{}, L: []api.Node{}}, api.OK},
	} {
		checks(t, c.n, c.want)
	}
}

// P11.2: bytes that may be a tag's, and bytes that may not, of the whole thing and of one in it.
func TestCheckByTags(t *testing.T) {
	for _, of := range ofTags() {
		for _, may := range of.may {
			n := prim(of.tag, []byte(may)...)
			checks(t, n, api.OK)
			checks(t, set(prim(5), n, n), api.OK)
			checks(t, inSeqs(n, 7), api.OK)
		}
		for _, mayNot := range of.mayNot {
			n := prim(of.tag, []byte(mayNot)...)
			checks(t, n, api.ErrDer)
			checks(t, made(3, prim(5), n), api.ErrDer)
			checks(t, inSeqs(n, 7), api.ErrDer)
			checks(t, plain(of.tag, []byte(mayNot)...), api.OK)
			n.Class = 3
			checks(t, n, api.ErrDer)
			n.Class, n.L = 0, []api.Node{prim(5)}
			checks(t, n, api.ErrForm)
		}
	}
}

// P11.2: of many bytes all are asked.
func TestCheckManyBytes(t *testing.T) {
	odd := append([]byte{1, 70000: 0}, 1) // a bit that isn't used, and is 1, at their end
	checks(t, prim(3, odd...), api.ErrDer)
	checks(t, prim(3, odd[:len(odd)-1]...), api.OK)
	checks(t, seq(prim(5), prim(3, odd...)), api.ErrDer)
}

// P11.2: heads of each size.
func TestWriteHeads(t *testing.T) {
	for _, length := range []int{0, 1, 126, 127, 128, 129, 254, 255, 256, 257, 65534, 65535, 65536, 65537} {
		n := prim(4, make([]byte, length)...)
		checks(t, n, api.OK)
		checks(t, plain(30, n.B...), api.OK)
		checks(t, seq(n), api.OK)
		checks(t, made(1, n, prim(5), seq(n, n)), api.OK)
		for less := range min(length, 8) { // one of these has just so many bytes together
			checks(t, set(prim(4, make([]byte, length-less)...)), api.OK)
			checks(t, made(9, prim(5), prim(4, make([]byte, length-less)...)), api.OK)
		}
	}
}

// spanned is a sequence whose bytes are so many, its head apart, in an octet string and a null.
func spanned(n int) api.Node {
	return seq(api.Node{Tag: 4, B: make([]byte, n-5-2)}, prim(5))
}

// P11.2: as many bytes as a length can tell, and one more: of a thing's own, and of the things in it together, their heads too.
func TestCheckSpan(t *testing.T) {
	const most = 1<<24 - 1
	checks(t, prim(4, make([]byte, most)...), api.OK)
	for _, n := range []int{most + 1, most + 2, 1 << 25} {
		checks(t, prim(4, make([]byte, n)...), api.ErrLength)
		checks(t, plain(7, make([]byte, n)...), api.ErrLength)
	}
	checks(t, spanned(most), api.OK)
	checks(t, spanned(most+1), api.ErrLength)
	checks(t, made(30, spanned(most-5)), api.OK)
	checks(t, made(30, spanned(most-4)), api.ErrLength)
	checks(t, made(30, spanned(most)), api.ErrLength)
	half := api.Node{Class: 2, B: make([]byte, 1<<23-5)}
	checks(t, set(half, half), api.ErrLength)
	half.B = half.B[1:]
	checks(t, set(half, half), api.OK)                 // 2^24 - 2
	checks(t, set(prim(5), half, half), api.ErrLength) // 2^24
	checks(t, seq(prim(5), prim(4, make([]byte, most+1)...)), api.ErrLength)
}

// P11.2: things as deep as may be, and deeper, whatever else is wrong with them; what isn't made of others is as deep as its list tells, too.
func TestCheckDeep(t *testing.T) {
	for _, n := range []api.Node{prim(5), seq(), made(3), plain(3, 1, 2), prim(1), prim(31), {Tag: 16, Made: true, B: []byte{1}}, {Tag: 4, L: []api.Node{}}} {
		for deep := 1; deep <= 12; deep++ {
			want := asked(n)
			if deep > 8 {
				want = api.ErrDeep
			}
			checks(t, n, want)
			checks(t, set(seq(), n), wanted(set(seq(), n)))
			n = seq(n)
		}
	}
	// What else is wrong is told of a thing that isn't too deep alone.
	eight := inSeqs(prim(5), 7)
	checks(t, eight, api.OK)
	for _, of := range []func(in api.Node) (api.Node, api.Errno){
		func(in api.Node) (api.Node, api.Errno) { return seq(in), api.OK },
		func(in api.Node) (api.Node, api.Errno) { return seq(prim(1), in), api.ErrDer },
		func(in api.Node) (api.Node, api.Errno) { return api.Node{Tag: 99, L: []api.Node{in}}, api.ErrDer },
		func(in api.Node) (api.Node, api.Errno) { return api.Node{Tag: 4, L: []api.Node{in}}, api.ErrForm },
		func(in api.Node) (api.Node, api.Errno) {
			return api.Node{Tag: 16, Made: true, B: []byte{1}, L: []api.Node{in}}, api.ErrForm
		},
		func(in api.Node) (api.Node, api.Errno) {
			return seq(prim(4, make([]byte, 1<<24)...), in), api.ErrLength
		},
	} {
		n, want := of(eight.L[0])
		checks(t, n, want)
		n, _ = of(eight)
		checks(t, n, api.ErrDeep)
	}
	// One that isn't made of others, within: its list is as deep.
	checks(t, inSeqs(api.Node{Tag: 4, L: []api.Node{prim(5)}}, 6), api.ErrForm)
	checks(t, inSeqs(api.Node{Tag: 4, L: []api.Node{prim(5)}}, 7), api.ErrDeep)
}

// P11.2: of two errors at a time the first one that the sentence lists: a thing's own ahead of those in it, but its length behind these.
func TestCheckTwoErrors(t *testing.T) {
	long := prim(4, make([]byte, 1<<24)...)
	noBoolean, noThing, noForm := prim(1, 7), prim(31), api.Node{Tag: 16, Made: true, B: []byte{5, 0}}
	for _, c := range []struct {
		what string
		n    api.Node
		want api.Errno
	}{
		{"no thing, and not of the form", api.Node{Tag: 31, Made: true, B: []byte{1}}, api.ErrDer},
		{"no thing, and too long", api.Node{Tag: 31, B: long.B}, api.ErrDer},
		{"not of the form, and bytes that may not be", api.Node{Tag: 1, B: []byte{7}, L: []api.Node{prim(5)}}, api.ErrForm},
		{"not of the form, and too long", api.Node{Tag: 4, B: long.B, L: []api.Node{prim(5)}}, api.ErrForm},
		{"not of the form, and too long, made of others", api.Node{Tag: 16, Made: true, B: long.B}, api.ErrForm},
		{"not of the form, and a wrong one in it", api.Node{Tag: 4, L: []api.Node{noBoolean}}, api.ErrForm},
		{"bytes that may not be, and are too long", prim(1, long.B...), api.ErrDer},
		{"the same of an integer", prim(2, long.B...), api.ErrDer},
		{"a right integer that is too long", prim(2, append([]byte{1}, long.B...)...), api.ErrLength},
		{"no thing, and one in it not of the form", api.Node{Tag: 15, Made: true, L: []api.Node{noForm}}, api.ErrDer},
		{"not of the form, and one in it no thing", api.Node{Class: 2, Made: true, B: []byte{1}, L: []api.Node{noThing}}, api.ErrForm},
		{"the first one in it", seq(noForm, noThing), api.ErrForm},
		{"the first one in it, again", seq(noThing, noForm), api.ErrDer},
		{"one behind a right one", seq(prim(5), noForm, noThing), api.ErrForm},
		{"one in the first one in it", seq(seq(prim(5), noForm), noThing), api.ErrForm},
		{"one that is too long, and a wrong one behind it", seq(long, noForm), api.ErrLength},
		{"a wrong one, and one that is too long behind it", seq(noForm, long), api.ErrForm},
		{"too long together, and a wrong one behind that", seq(spanned(1<<23), spanned(1<<23), spanned(1<<23), noForm), api.ErrForm},
		{"too long together, and a wrong one at the end of the last", seq(spanned(1<<23), seq(spanned(1<<23), noBoolean)), api.ErrDer},
		{"too long together within, and a wrong one behind that", seq(seq(spanned(1<<23), spanned(1<<23)), noForm), api.ErrLength},
	} {
		if asked(c.n) != c.want {
			t.Fatalf("%s: the test's own words are wrong: %v", c.what, asked(c.n))
		}
		t.Run(c.what, func(t *testing.T) { checks(t, c.n, c.want) })
	}
}

// P11.2: each error, of the first one in a thing and of a later one, at each depth.
func TestCheckErrorsAtEachDepth(t *testing.T) {
	for _, c := range []struct {
		n    api.Node
		want api.Errno
	}{
		{prim(7), api.ErrDer}, {api.Node{Class: 2, Tag: 31, Made: true}, api.ErrDer}, {api.Node{Class: 1, Tag: 5}, api.ErrDer},
		{api.Node{Tag: 17, Made: true, B: []byte{1}}, api.ErrForm}, {api.Node{Class: 2, L: []api.Node{}, B: []byte{}, Made: true}, api.OK},
		{prim(5, 0), api.ErrDer}, {prim(6), api.ErrDer}, {plain(6), api.OK},
		{prim(12, make([]byte, 1<<24)...), api.ErrLength},
	} {
		for _, ahead := range [][]api.Node{nil, {prim(5)}, {seq(prim(2, 5)), prim(4)}} {
			for _, after := range [][]api.Node{nil, {prim(5)}, {prim(5, 1)}, {set(prim(4)), prim(4)}, {{Tag: 99}, {Tag: 16, Made: true, B: []byte{1}}}} {
				n := c.n
				for deep := 1; deep <= 8; deep++ {
					want := c.want
					if want == api.OK && deep > 1 && len(after) > 0 {
						want = asked(seq(after...))
					}
					if deep == 8 && len(ahead) == 2 || deep == 8 && len(after) == 2 && len(after[0].L) > 0 {
						want = api.ErrDeep // what stands beside it in the innermost is one deeper
					}
					checks(t, n, want)
					n = api.Node{Tag: 16 + deep%2, Made: true, L: slices.Concat(ahead, []api.Node{n}, after)}
				}
			}
		}
	}
}
