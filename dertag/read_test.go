package dertag_test

import (
	"slices"
	"sync"
	"testing"

	"passepartout/api"
	"passepartout/dertag"
)

func TestExamples(t *testing.T) {
	reads(t, []byte{48, 130, 1, 0}, answer{dertag.Head{Tag: 16, Made: true, Len: 256}, 4, api.OK})
	fails(t, []byte{2, 129, 5}, 1, api.ErrDer)
	fails(t, []byte{31, 0}, 0, api.ErrDer)
}

// P9.2: no bytes, nil and not, also where some lie behind their length.
func TestReadNoBytes(t *testing.T) {
	for _, b := range [][]byte{nil, {}, make([]byte, 0, 9), []byte{48, 0}[:0], []byte{48, 3, 2}[3:]} {
		if a := got(dertag.Read(b)); a != (answer{e: api.ErrShort}) {
			t.Errorf("Read of no bytes: %v", a)
		}
	}
}

// P9.2: every first byte alone.
func TestReadOneByte(t *testing.T) {
	count := 0
	for first := range 256 {
		b := []byte{byte(first)}
		if wanted(b).e == api.ErrShort {
			fails(t, b, 1, api.ErrShort)
			count++
		} else {
			fails(t, b, 0, api.ErrDer)
		}
	}
	if count != len(things()) {
		t.Errorf("%d first bytes are things'; want %d", count, len(things()))
	}
}

// P9.2: every first byte with every second one, behind which up to four bytes stand.
func TestReadEveryTwo(t *testing.T) {
	behind := [][]byte{{0, 0, 0, 0}, {1, 2, 3, 4}, {127, 0, 0, 0}, {128, 0, 0, 0}, {255, 255, 255, 255}, {0, 255, 255, 255}, {0, 0, 255, 1}, {1, 0, 0, 0}}
	for first := range 256 {
		for second := range 256 {
			for i, some := range behind {
				for n := range len(some) + 1 {
					if n == 0 && i > 0 {
						continue // no bytes are always the same
					}
					b := append([]byte{byte(first), byte(second)}, some[:n]...)
					reads(t, b, wanted(b))
				}
			}
		}
	}
}

// P9.2: every second byte of a sequence, in the document's words.
func TestReadSecondByte(t *testing.T) {
	for second := range 256 {
		b := []byte{48, byte(second)}
		switch {
		case second < 128:
			reads(t, b, answer{dertag.Head{Tag: 16, Made: true, Len: second}, 2, api.OK})
		case second == 128 || second > 131:
			fails(t, b, 1, api.ErrDer)
		default:
			fails(t, b, 2, api.ErrShort)
		}
	}
}

// padded is a length laid in so many bytes behind the first one of these, also in more than it needs.
func padded(length, follow int) []byte {
	b := make([]byte, follow+1)
	b[0] = byte(128 + follow)
	for i := follow; i > 0; i-- {
		b[i] = byte(length)
		length >>= 8
	}
	return b
}

// P9.2: lengths in one, two, three and four bytes, right ones and longer ones than are needed, cut off behind every byte, and with bytes behind.
func TestReadLengths(t *testing.T) {
	for _, length := range lengths() {
		for follow := 1; follow <= 4; follow++ {
			if follow < len(digits(length)) {
				continue // so few don't tell it
			}
			for _, h := range []dertag.Head{{Tag: 4}, {Tag: 16, Made: true}, {Class: 2, Tag: 30}, {Class: 2, Made: true}} {
				b := append([]byte{headBytes(h)[0]}, padded(length, follow)...)
				for cut := 2; cut < len(b); cut++ {
					if follow > 3 {
						fails(t, b[:cut], 1, api.ErrDer)
					} else {
						fails(t, b[:cut], cut, api.ErrShort)
					}
				}
				want := answer{ofLength(h, length), len(b), api.OK}
				if length < 128 || follow > len(digits(length)) {
					want = answer{at: 1, e: api.ErrDer}
				}
				for behind := range 4 {
					reads(t, slices.Concat(b, []byte{0, 255, 48}[:behind]), want)
				}
			}
		}
	}
}

// P9.2: of two errors at a time the first one that the sentence lists.
func TestReadTwoErrors(t *testing.T) {
	fails(t, []byte{31}, 0, api.ErrDer)              // no such thing, and one byte
	fails(t, []byte{16}, 0, api.ErrDer)              // a sequence that isn't made of others
	fails(t, []byte{34}, 0, api.ErrDer)              // an integer that is made of others
	fails(t, []byte{64}, 0, api.ErrDer)              // no such class
	fails(t, []byte{191}, 0, api.ErrDer)             // no such tag of the class 2
	fails(t, []byte{0, 128}, 0, api.ErrDer)          // no such thing, and a second byte that may not be
	fails(t, []byte{255, 132}, 0, api.ErrDer)        // no such thing, and a second byte above 131
	fails(t, []byte{32, 130}, 0, api.ErrDer)         // no such thing, and no length
	fails(t, []byte{63, 129, 5}, 0, api.ErrDer)      // no such thing, and a length of more than it needs
	fails(t, []byte{48, 132}, 1, api.ErrDer)         // a second byte above 131, and no length
	fails(t, []byte{48, 132, 0}, 1, api.ErrDer)      // the same, and a length of more than it needs
	fails(t, []byte{48, 255}, 1, api.ErrDer)         // the same
	fails(t, []byte{48, 128}, 1, api.ErrDer)         // 128, and nothing behind it
	fails(t, []byte{48, 130, 0}, 3, api.ErrShort)    // a length that is too short, and begins with a 0
	fails(t, []byte{48, 131, 0, 0}, 4, api.ErrShort) // the same
	fails(t, []byte{48, 131}, 2, api.ErrShort)
	fails(t, []byte{48, 129, 0}, 1, api.ErrDer)
	fails(t, []byte{48, 131, 0, 1, 0}, 1, api.ErrDer)
	fails(t, []byte{48, 131, 0, 255, 255}, 1, api.ErrDer)
	fails(t, []byte{48, 130, 0, 128}, 1, api.ErrDer) // one byte would do
}

// P9.2: the bytes that the length speaks of aren't asked for.
func TestReadHeadAlone(t *testing.T) {
	reads(t, []byte{4, 127}, answer{dertag.Head{Tag: 4, Len: 127}, 2, api.OK})
	reads(t, []byte{4, 131, 255, 255, 255}, answer{dertag.Head{Tag: 4, Len: api.MaxSpan}, 5, api.OK})
	reads(t, []byte{5, 100}, answer{dertag.Head{Tag: 5, Len: 100}, 2, api.OK}) // whether a null may be so long isn't this layer's to ask
}

// comesBack puts a head, and reads it, with other bytes behind it, too.
func comesBack(t *testing.T, h dertag.Head) {
	t.Helper()
	b, e := dertag.Put(h)
	if e != api.OK {
		t.Errorf("Put(%v): %v", h, e)
		return
	}
	want := answer{h, len(b), api.OK}
	for _, behind := range [][]byte{nil, {0}, {128}, {255, 255, 255, 255}} {
		if a := got(dertag.Read(append(slices.Clone(b), behind...))); a != want {
			t.Errorf("Read of %v, put as %v, with %v behind: %v", h, b, behind, a)
		}
	}
}

// P9.4: what is put is read as it was.
func TestPutIsRead(t *testing.T) {
	for _, h := range things() {
		for _, n := range lengths() {
			comesBack(t, ofLength(h, n))
		}
	}
	for n := range 1 << 17 {
		comesBack(t, dertag.Head{Tag: 16, Made: true, Len: n})
	}
	for n := 1 << 17; n <= api.MaxSpan; n += 251 {
		comesBack(t, dertag.Head{Class: 2, Tag: 3, Len: n})
	}
}

// P9.4: what is read is put as those bytes: no two rows of bytes are one head.
func TestReadIsPut(t *testing.T) {
	behind := [][]byte{{}, {127}, {128}, {255}, {0, 128}, {0, 255}, {1, 0}, {255, 255}, {0, 255, 255}, {1, 0, 0}, {255, 255, 255}, {0, 1, 0, 0}}
	for first := range 256 {
		for second := range 256 {
			for _, some := range behind {
				b := append([]byte{byte(first), byte(second)}, some...)
				h, n, e := dertag.Read(b)
				if e == api.OK {
					puts(t, h, b[:n], api.OK)
				}
			}
		}
	}
}

// Rules 6 and 7: many goroutines at a time are answered as one is.
func TestManyAtATime(t *testing.T) {
	var all sync.WaitGroup
	for asker := range 8 {
		all.Go(func() {
			for _, h := range things() {
				for _, n := range lengths() {
					h := ofLength(h, n+asker)
					if h.Len > api.MaxSpan {
						puts(t, h, nil, api.ErrLength)
						continue
					}
					b := headBytes(h)
					puts(t, h, b, api.OK)
					reads(t, b, answer{h, len(b), api.OK})
				}
			}
		})
	}
	all.Wait()
}
