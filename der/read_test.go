package der_test

import (
	"bytes"
	"slices"
	"testing"

	"passepartout/api"
	"passepartout/der"
)

func TestExamples(t *testing.T) {
	reads(t, []byte{48, 3, 2, 1, 5}, seq(prim(2, 5)))
	fails(t, []byte{48, 3, 2, 1}, 4, api.ErrShort)
	fails(t, []byte{48, 2, 5, 1}, 4, api.ErrShort)
	fails(t, []byte{5, 1, 0}, 2, api.ErrDer)
	fails(t, []byte{48, 129, 3, 2, 1, 5}, 1, api.ErrDer)
	checks(t, seq(prim(2, 5)), api.OK)
}

// P11.1: no bytes, nil and not, also where some lie behind their length.
func TestReadNoBytes(t *testing.T) {
	for _, b := range [][]byte{nil, {}, make([]byte, 0, 9), []byte{5, 0}[:0], []byte{48, 0, 5}[3:]} {
		for _, base := range bases {
			if n, at, e := der.Read(b, base); e != api.ErrShort || at != base || !equal(n, api.Node{}) {
				t.Errorf("Read of no bytes, %d: %v, %d, %v", base, n, at, e)
			}
		}
	}
}

// P11.1: every one byte: a head that is cut off, or no thing.
func TestReadOneByte(t *testing.T) {
	count := 0
	for first := range 256 {
		b := []byte{byte(first)}
		if thereIs(first/64, first%32, first/32%2 == 1) {
			fails(t, b, 1, api.ErrShort)
			count++
		} else {
			fails(t, b, 0, api.ErrDer)
		}
	}
	if count != 17+2+62 {
		t.Errorf("there are %d things", count)
	}
}

// P11.1: every two bytes.
func TestReadEveryTwo(t *testing.T) {
	for first := range 256 {
		n := api.Node{Class: first / 64, Tag: first % 32, Made: first/32%2 == 1}
		for second := range 256 {
			b := []byte{byte(first), byte(second)}
			switch {
			case !thereIs(n.Class, n.Tag, n.Made):
				fails(t, b, 0, api.ErrDer)
			case second == 128 || second > 131:
				fails(t, b, 1, api.ErrDer)
			case second > 0:
				fails(t, b, 2, api.ErrShort)
			case slices.Contains([]byte{1, 2, 3, 6, 10, 23, 24}, b[0]):
				fails(t, b, 2, api.ErrDer) // without bytes they aren't right
			default:
				reads(t, b, n)
			}
		}
	}
}

// P11.1: every thing of one byte, or with one in it; every two bytes in a sequence.
func TestReadEveryThree(t *testing.T) {
	for first := range 256 {
		for x := range 256 {
			held(t, []byte{byte(first), 1, byte(x)})
			held(t, []byte{byte(first), 0, byte(x)})
			held(t, []byte{48, 2, byte(first), byte(x)})
			held(t, []byte{160, 3, byte(first), 1, byte(x)})
			held(t, []byte{49, 4, 5, 0, byte(first), byte(x)})
		}
	}
}

// P11.1: the bytes of a thing of the class 0 are asked by its tag, of the whole one and of one in it.
func TestReadByTags(t *testing.T) {
	for _, of := range ofTags() {
		first := byte(of.tag)
		for _, may := range of.may {
			b := thing(first, []byte(may))
			reads(t, b, prim(of.tag, []byte(may)...))
			reads(t, thing(48, b), seq(prim(of.tag, []byte(may)...)))
			reads(t, thing(190, b, []byte{5, 0}, b), made(30, prim(of.tag, []byte(may)...), prim(5), prim(of.tag, []byte(may)...)))
		}
		for _, mayNot := range of.mayNot {
			b := thing(first, []byte(mayNot))
			fails(t, b, 2, api.ErrDer)
			fails(t, append(b, 5), 2, api.ErrDer)
			fails(t, thing(48, b), 4, api.ErrDer)
			fails(t, thing(190, []byte{4, 1, 7}, b, b), 7, api.ErrDer)
			reads(t, thing(130, []byte(mayNot)), plain(2, []byte(mayNot)...))
		}
	}
	// The place is behind the whole head, also where its length has more bytes than one.
	zeros := make([]byte, 70000)
	odd := slices.Concat([]byte{1}, zeros, []byte{1}) // a bit that isn't used, and is 1, at their end
	fails(t, thing(3, odd), 5, api.ErrDer)
	reads(t, thing(3, odd[:len(odd)-1]), prim(3, odd[:len(odd)-1]...))
	for _, c := range []struct{ n, at int }{{127, 2}, {128, 3}, {255, 3}, {256, 4}, {65535, 4}, {65536, 5}} {
		fails(t, thing(2, zeros[:c.n]), c.at, api.ErrDer)
		fails(t, thing(5, zeros[:c.n]), c.at, api.ErrDer)
		fails(t, thing(48, []byte{5, 0}, thing(1, zeros[:c.n])), c.at+2+len(headBytes(48, c.n+6)), api.ErrDer)
	}
}

// P11.1: a thing of the class 2 that isn't made of others may have any bytes; one that is has things.
func TestReadContext(t *testing.T) {
	rows := [][]byte{nil, {0}, {48}, {48, 5}, {5, 1}, {31, 0}, {128}, {255, 255, 255}, bytes.Repeat([]byte{77}, 300)}
	for tag := range 31 {
		for _, row := range rows {
			reads(t, thing(byte(128+tag), row), plain(tag, row...))
			reads(t, thing(byte(160+tag), thing(byte(128+tag), row), thing(158, row)), made(tag, plain(tag, row...), plain(30, row...)))
		}
		reads(t, thing(byte(160+tag)), made(tag))
		reads(t, thing(byte(160+tag), []byte{5, 0, 160, 0, 2, 1, 5}), made(tag, prim(5), made(0), prim(2, 5)))
		fails(t, []byte{byte(160 + tag), 1, 0}, 2, api.ErrDer)
		fails(t, []byte{byte(160 + tag), 1, 5}, 3, api.ErrShort)
		fails(t, []byte{byte(160 + tag), 3, 1, 1, 7}, 4, api.ErrDer)
	}
}

// P11.1: as many things in one as there are, in their order.
func TestReadManyInOne(t *testing.T) {
	for _, count := range []int{1, 2, 3, 42, 43, 85, 86, 1000, 21846} {
		var l []api.Node
		for i := range count {
			l = append(l, plain(i%31, byte(i)))
		}
		reads(t, bytesOf(set(l...)), set(l...))
		reads(t, bytesOf(made(1, seq(l...), prim(1, 0), seq(l...))), made(1, seq(l...), prim(1, 0), seq(l...)))
	}
}

// P11.1: a byte behind the whole thing, at its place, whatever it is.
func TestReadTrail(t *testing.T) {
	next := chance(2)
	for _, b := range [][]byte{{5, 0}, {48, 0}, {160, 0}, {128, 1, 9}, {48, 3, 2, 1, 5}, {48, 4, 48, 2, 5, 0}, thing(4, make([]byte, 200)), bytesOf(inSeqs(prim(5), 7))} {
		for x := range 256 {
			fails(t, append(slices.Clone(b), byte(x)), len(b), api.ErrTrail)
			fails(t, slices.Concat(b, []byte{byte(x)}, anyBytes(next(9), next)), len(b), api.ErrTrail)
		}
		fails(t, slices.Concat(b, b), len(b), api.ErrTrail)
	}
}

// P11.1: things as deep as may be, and one deeper, with nothing in the innermost, with bytes, and with things.
func TestReadDeep(t *testing.T) {
	for _, first := range []byte{48, 49, 160, 190} {
		for _, innermost := range [][]byte{{first, 0}, {5, 0}, {2, 1, 5}, {4, 0}, {128, 0}, {158, 2, 48, 0}} {
			b := innermost
			for deep := 1; deep <= 12; deep++ {
				if deep <= 8 {
					if e := held(t, b); e != api.OK {
						t.Errorf("Read(%v): %v", b, e)
					}
				} else {
					fails(t, b, 16, api.ErrDeep)
				}
				b = thing(first, b)
			}
		}
	}
	eight := bytesOf(inSeqs(seq(), 7))
	reads(t, eight, inSeqs(seq(), 7))
	// One that is too deep is told at its first byte, whatever that and all behind it are; what is wrong ahead of it is told ahead.
	for x := range 256 {
		in := []byte{byte(x)}
		for range 8 {
			in = thing(48, in)
		}
		fails(t, in, 16, api.ErrDeep)
		fails(t, append(in, 5), 16, api.ErrDeep)
	}
	deep := thing(48, eight)
	fails(t, thing(49, []byte{5, 0}, eight[2:], deep[2:], []byte{31}), 2+2+14+14, api.ErrDeep)
	fails(t, thing(49, []byte{1, 0}, deep), 4, api.ErrDer)
	fails(t, thing(49, deep, []byte{1, 0}), 2+14, api.ErrDeep)
	fails(t, thing(49, deep[:17]), 19, api.ErrShort)
	reads(t, thing(49, eight[2:], []byte{5, 0}, eight[2:]), set(inSeqs(seq(), 6), prim(5), inSeqs(seq(), 6)))
}

// P11.1: a head that is cut off behind each of its bytes, at the end of all bytes, and at the end of what it is in, though others stand behind that.
func TestReadHeadCutOff(t *testing.T) {
	for _, first := range []byte{1, 2, 4, 5, 16 + 32, 17 + 32, 30, 128, 158, 160, 190} {
		for _, length := range []int{0, 1, 127, 128, 255, 256, 65535, 65536, 1<<24 - 1} {
			head := headBytes(first, length)
			for cut := 1; cut < len(head); cut++ {
				b := head[:cut]
				fails(t, b, cut, api.ErrShort)
				for deep := 1; deep <= 7; deep++ {
					b = thing(48, b)
					fails(t, b, len(b), api.ErrShort)
					fails(t, slices.Concat(b, head[cut:], make([]byte, length%1000)), len(b), api.ErrShort)
					if deep < 7 {
						around := thing(160, []byte{5, 0}, b, []byte{5, 0, 5, 0})
						fails(t, around, len(around)-4, api.ErrShort)
					}
				}
			}
		}
	}
}

// P11.1: a head that tells one byte more than is left, or one less.
func TestReadOneMoreOneLess(t *testing.T) {
	zeros := make([]byte, 66000)
	for _, first := range []byte{4, 12, 30, 128, 158} {
		for _, length := range []int{0, 1, 2, 126, 127, 128, 254, 255, 256, 65534, 65535} {
			more := append(headBytes(first, length+1), zeros[:length]...)
			fails(t, more, len(more), api.ErrShort)
			b := thing(49, []byte{5, 0}, more)
			fails(t, b, len(b), api.ErrShort)
			fails(t, slices.Concat(b, zeros[:9]), len(b), api.ErrShort)
			fails(t, thing(48, b, []byte{5, 0}), len(b)+len(headBytes(48, len(b)+2)), api.ErrShort)

			less := append(headBytes(first, length), zeros[:length+1]...)
			fails(t, less, len(less)-1, api.ErrTrail)
			b = thing(49, []byte{5, 0}, less)
			fails(t, b, len(b)-1, api.ErrDer) // the byte 0 begins no thing
			less[len(less)-1] = 5
			b = thing(49, []byte{5, 0}, less)
			fails(t, b, len(b), api.ErrShort) // the byte 5 is a head that is cut off
		}
	}
	// Of what is made of others: its own length, too.
	fails(t, []byte{48, 3, 5, 0}, 4, api.ErrShort)
	fails(t, []byte{48, 1, 5, 0}, 3, api.ErrShort)
	fails(t, []byte{48, 2, 5, 0, 5}, 4, api.ErrTrail)
	fails(t, []byte{48, 4, 48, 3, 5, 0}, 6, api.ErrShort)
	fails(t, []byte{48, 4, 48, 1, 5, 0}, 5, api.ErrShort)
	fails(t, []byte{48, 4, 48, 0, 5, 0, 9}, 6, api.ErrTrail)
	fails(t, []byte{48, 3, 48, 2, 5, 0}, 5, api.ErrShort)
	fails(t, []byte{48, 5, 48, 2, 5, 0}, 6, api.ErrShort)
	fails(t, []byte{48, 5, 48, 2, 5, 0, 0}, 6, api.ErrDer)
}

// P11.1: as many bytes as a length can tell, of one thing's own and of things in it; and one more than are there.
func TestReadSpan(t *testing.T) {
	whole := thing(4, make([]byte, 1<<24-1))
	reads(t, whole, api.Node{Tag: 4, B: make([]byte, 1<<24-1)})
	fails(t, whole[:len(whole)-1], len(whole)-1, api.ErrShort)
	fails(t, append(whole, 0), len(whole), api.ErrTrail)
	in := api.Node{Class: 2, B: make([]byte, 1<<24-1-5-2)}
	reads(t, bytesOf(seq(in, prim(5))), seq(in, prim(5)))
	fails(t, append([]byte{48, 132, 1, 0, 0, 0}, make([]byte, 1<<24)...), 1, api.ErrDer)
	fails(t, append([]byte{48, 131, 255, 255, 255, 4, 131, 255, 255, 255}, make([]byte, 1<<24-6)...), 1<<24+4, api.ErrShort)
}

// wrong are bytes of a thing with an error, its place, and whether other bytes may stand behind it.
type wrong struct {
	b    []byte
	at   int
	e    api.Errno
	ends bool // it is at the end of what the thing is in
}

// wrongs are such, of each of Read's errors but those of the depth and of what stands behind.
func wrongs() []wrong {
	return []wrong{
		{[]byte{0, 0}, 0, api.ErrDer, false}, {[]byte{31, 0}, 0, api.ErrDer, false}, {[]byte{16, 0}, 0, api.ErrDer, false}, {[]byte{34, 1, 5}, 0, api.ErrDer, false},
		{[]byte{64, 0}, 0, api.ErrDer, false}, {[]byte{192, 0}, 0, api.ErrDer, false}, {[]byte{191, 0}, 0, api.ErrDer, false}, {[]byte{7}, 0, api.ErrDer, false},
		{[]byte{4, 128}, 1, api.ErrDer, false}, {[]byte{48, 132, 0, 0, 0, 0}, 1, api.ErrDer, false}, {[]byte{4, 129, 5, 1, 2, 3, 4, 5}, 1, api.ErrDer, false}, {[]byte{160, 129, 0}, 1, api.ErrDer, false}, {[]byte{4, 130, 0, 200}, 1, api.ErrDer, false},
		{[]byte{1, 1, 7}, 2, api.ErrDer, false}, {[]byte{2, 0}, 2, api.ErrDer, false}, {[]byte{2, 2, 0, 5}, 2, api.ErrDer, false}, {[]byte{3, 1, 1}, 2, api.ErrDer, false}, {[]byte{5, 1, 0}, 2, api.ErrDer, false}, {[]byte{6, 0}, 2, api.ErrDer, false},
		{thing(2, make([]byte, 128)), 3, api.ErrDer, false}, {[]byte{23, 1, 'Z'}, 2, api.ErrDer, false}, {[]byte{24, 0}, 2, api.ErrDer, false},
		{[]byte{4}, 1, api.ErrShort, true}, {[]byte{48}, 1, api.ErrShort, true}, {[]byte{4, 129}, 2, api.ErrShort, true}, {[]byte{4, 130, 1}, 3, api.ErrShort, true}, {[]byte{128, 131, 1, 0}, 4, api.ErrShort, true},
		{[]byte{4, 1}, 2, api.ErrShort, true}, {[]byte{1, 1}, 2, api.ErrShort, true}, {[]byte{48, 3, 5, 0}, 4, api.ErrShort, true}, {[]byte{4, 5, 1, 2, 3, 4}, 6, api.ErrShort, true}, {[]byte{160, 131, 255, 255, 255}, 5, api.ErrShort, true},
	}
}

// P11.1: each error, of the whole thing, of the first one in a thing and of a later one, at each depth, with right and wrong ones behind it; too deep, it isn't looked at.
func TestReadErrorsAtEachDepth(t *testing.T) {
	aheads := [][]byte{nil, {5, 0}, {48, 0, 2, 1, 5}, thing(4, make([]byte, 130))}
	behinds := [][]byte{nil, {5, 0}, {1, 1, 7}, {31}, {48, 9}}
	for _, w := range wrongs() {
		for _, ahead := range aheads {
			for _, after := range behinds {
				b, at := w.b, w.at
				for deep := 1; deep <= 9; deep++ {
					if deep == 9 {
						fails(t, b, at-w.at-len(ahead), api.ErrDeep) // the first one that is as deep
						break
					}
					fails(t, b, at, w.e)
					if deep > 1 || !w.ends {
						fails(t, append(slices.Clone(b), after...), at, w.e)
					}
					in := slices.Concat(ahead, b, after)
					if deep == 1 && w.ends {
						in = slices.Concat(ahead, b)
					}
					first := []byte{48, 49, 160, 190}[deep%4]
					b, at = thing(first, in), at+len(ahead)+len(headBytes(first, len(in)))
				}
			}
		}
	}
}

// P11.1: of two errors at a time the first one, as it is read from the front.
func TestReadTwoErrors(t *testing.T) {
	fails(t, []byte{31, 128}, 0, api.ErrDer)                               // no thing, and no length
	fails(t, []byte{1, 128}, 1, api.ErrDer)                                // no length, and no boolean
	fails(t, []byte{1, 2, 7}, 3, api.ErrShort)                             // too few bytes, that are no boolean
	fails(t, []byte{2, 1}, 2, api.ErrShort)                                // the same
	fails(t, []byte{48, 4, 1, 1, 7}, 5, api.ErrShort)                      // too few, and what is there is wrong
	fails(t, []byte{48, 3, 1, 1, 7, 9}, 4, api.ErrDer)                     // a wrong one, and a byte behind
	fails(t, []byte{48, 3, 1, 2, 0, 0}, 5, api.ErrShort)                   // too few up to the end of what it is in, and a byte behind that
	fails(t, []byte{5, 1, 0, 0}, 2, api.ErrDer)                            // a wrong whole one, and a byte behind
	fails(t, []byte{5, 0, 0}, 2, api.ErrTrail)                             // just a byte behind, which begins no thing
	fails(t, []byte{48, 6, 1, 1, 7, 2, 0, 5}, 4, api.ErrDer)               // two wrong ones
	fails(t, []byte{48, 7, 48, 3, 1, 1, 7, 31, 0}, 6, api.ErrDer)          // one in one, and one behind it
	fails(t, []byte{48, 5, 31, 0, 1, 1, 7}, 2, api.ErrDer)                 // no thing, and a wrong one
	fails(t, []byte{48, 5, 5, 0, 48, 4, 1}, 7, api.ErrShort)               // too few for a thing, and for the head in it
	fails(t, []byte{48, 130, 1, 0, 31}, 5, api.ErrShort)                   // too few, and no thing
	fails(t, []byte{48, 129, 3, 1, 1, 7}, 1, api.ErrDer)                   // a length of more than it needs, and a wrong thing
	fails(t, []byte{48, 129, 200, 31, 0}, 5, api.ErrShort)                 // the same of one that needs it
	fails(t, []byte{48, 128, 5, 0, 0, 0}, 1, api.ErrDer)                   // a length that may not be, and bytes behind
	fails(t, []byte{160, 2, 16, 128}, 2, api.ErrDer)                       // no thing in one, and no length
	fails(t, []byte{160, 3, 5, 0, 4, 0}, 5, api.ErrShort)                  // a head that is cut off by its thing's end alone
	fails(t, []byte{160, 4, 5, 0, 4, 1, 0}, 6, api.ErrShort)               // bytes that are
	fails(t, []byte{160, 8, 48, 2, 4, 1, 48, 2, 5, 0}, 6, api.ErrShort)    // the same, and a right one behind
	fails(t, []byte{160, 9, 48, 3, 4, 129, 1, 48, 2, 5, 0}, 5, api.ErrDer) // a wrong head whose bytes aren't there either
}

// P11.1, P11.3: all short rows of bytes that things are made of.
func TestReadAllShortRows(t *testing.T) {
	alphabet := []byte{0, 1, 2, 3, 5, 48, 128, 129, 160, 255}
	found := map[api.Errno]int{}
	var grow func(b []byte)
	grow = func(b []byte) {
		found[held(t, b)]++
		if len(b) == 6 {
			return
		}
		for _, x := range alphabet {
			if len(b) == 5 && x == 129 {
				continue // a last byte that tells nothing new
			}
			grow(append(slices.Clip(b), x))
		}
	}
	grow(nil)
	for _, e := range []api.Errno{api.OK, api.ErrShort, api.ErrDer, api.ErrTrail} {
		if found[e] < 100 {
			t.Errorf("%v: only %d rows", e, found[e])
		}
	}
}

// P11.1, P11.3: right things of all sorts; their bytes with some cut off, some changed, some more.
func TestReadChanged(t *testing.T) {
	next := chance(3)
	found := map[api.Errno]int{}
	for range 4000 {
		n := anyThing(1+next(9), next)
		b := bytesOf(n)
		if e := held(t, b); e != wanted(n) {
			t.Fatalf("Read(%v): %v; want %v", b, e, wanted(n))
		}
		found[held(t, b[:next(len(b)+1)])]++
		found[held(t, append(slices.Clip(b), byte(next(256))))]++
		for range 6 {
			other := slices.Clone(b)
			at := next(len(b))
			other[at] = []byte{byte(next(256)), b[at] + 1, b[at] - 1, 5, 48, 160}[next(6)]
			found[held(t, other)]++
		}
	}
	for _, e := range []api.Errno{api.OK, api.ErrShort, api.ErrDer, api.ErrTrail, api.ErrDeep} {
		if found[e] < 50 {
			t.Errorf("%v: only %d rows", e, found[e])
		}
	}
}
