package cert_test

import (
	"bytes"
	"fmt"
	"math"
	"slices"
	"testing"

	"passepartout/api"
	"passepartout/cert"
)

// Where things stand in a full certificate.
var (
	body         = []int{0}
	version      = []int{0, 0}
	serial       = []int{0, 1}
	bodyMethod   = []int{0, 2}
	firstNames   = []int{0, 3}
	times        = []int{0, 4}
	secondNames  = []int{0, 5}
	publicKey    = []int{0, 6}
	keyMethod    = []int{0, 6, 0}
	keyBits      = []int{0, 6, 1}
	extensions   = []int{0, 9}
	extensionRow = []int{0, 9, 0}
	wholeMethod  = []int{1}
	wholeBits    = []int{2}
)

func TestExample(t *testing.T) {
	n := seq(prim(2, 1), prim(2, 2), prim(2, 3))
	answers(t, n, cert.Cert{}, api.ErrForm)
	reads(t, []byte{48, 9, 2, 1, 1, 2, 1, 2, 2, 1, 3}, cert.Cert{}, 0, api.ErrForm)
}

// P12.1, P12.2: each version, without and with each of the things that may stand in a body or not.
func TestMayStand(t *testing.T) {
	for version := 1; version <= 3; version++ {
		for _, first := range []bool{false, true} {
			for _, second := range []bool{false, true} {
				for exts := -1; exts < 4; exts++ {
					var more []api.Node
					if first {
						more = append(more, plain(1, 255))
					}
					if second {
						more = append(more, plain(2))
					}
					if exts >= 0 {
						more = append(more, made(3, seq(slices.Repeat([]api.Node{seq(prim(5))}, exts)...)))
					}
					n := ofVersion(version, more...)
					if version == 1 && len(more) > 0 || version == 2 && exts >= 0 {
						answers(t, n, cert.Cert{}, api.ErrForm)
						isNone(t, n)
					} else {
						answers(t, n, ofParts(version, max(exts, 0)), api.OK)
						isOne(t, n)
					}
				}
			}
		}
	}
}

// P12.1, P12.2: which numbers tell a version.
func TestVersionNumbers(t *testing.T) {
	for version, b := range map[int][]byte{2: {1}, 3: {2}} {
		answers(t, whole(append([]api.Node{made(0, prim(2, b...))}, common()...)...), ofParts(version, 0), api.OK)
	}
	for _, b := range [][]byte{{0}, {3}, {4}, {127}, {128}, {253}, {254}, {255}, {0, 128}, {0, 129}, {0, 255}, {1, 0}, {1, 1}, {1, 2}, {2, 1}, {255, 1}, {255, 2}, {255, 127}, {1, 0, 1}, {1, 0, 0, 0, 1}, {1, 0, 0, 0, 0, 0, 0, 2}, {1, 0, 0, 0, 0, 0, 0, 0, 1}, {1, 0, 0, 0, 0, 0, 0, 0, 0, 2}, append(make([]byte, 1000), 1), append([]byte{1}, make([]byte, 1000)...)} {
		n := whole(append([]api.Node{made(0, prim(2, b...))}, common()...)...)
		if len(b) > 1 && b[0] == 0 && b[1] < 128 {
			answers(t, n, cert.Cert{}, api.ErrDer) // the number has more bytes than it needs
		} else {
			isNone(t, n)
		}
	}
	for number := range 256 {
		e := held(t, with(full(), version, made(0, prim(2, byte(number)))))
		if is := e == api.OK; is != (number == 2) {
			t.Errorf("with the number %d: %v", number, e)
		}
	}
}

// P12.1, P12.2: what else stands where the version does.
func TestVersionThings(t *testing.T) {
	for _, n := range []api.Node{ofVersion(2), ofVersion(3), full()} {
		right := *at(&n, version)
		isOne(t, with(n, version, right))
		for _, other := range []api.Node{
			made(0), made(0, prim(2, 1), prim(2, 1)), made(0, prim(2, 2), prim(2, 2)), made(0, prim(2, 1), prim(5)), made(0, prim(5), prim(2, 1)),
			made(0, prim(10, 1)), made(0, prim(1, 255)), made(0, prim(4, 1)), made(0, plain(2, 1)), made(0, plain(0, 2)), made(0, seq(prim(2, 1))), made(0, made(0, prim(2, 1))), made(0, made(2, prim(2, 1))), made(0, seq()), made(0, set(prim(2, 2))),
			plain(0, 1), plain(0, 2), plain(0), plain(0, 2, 1, 1), plain(0, 2, 1, 2), plain(1, 1), plain(2, 2),
			made(1, prim(2, 1)), made(2, prim(2, 2)), made(3, prim(2, 2)), made(16, prim(2, 1)), made(30, prim(2, 1)), made(1, right.L[0]),
			seq(prim(2, 1)), set(prim(2, 2)), prim(2, 1), prim(2, 2), prim(4, 2, 1, 1), seq(), prim(5),
		} {
			isNone(t, with(n, version, other))
		}
	}
	// Behind the serial number, and twice.
	number := made(0, prim(2, 1))
	isNone(t, whole(slices.Insert(common(), 1, number)...))
	isNone(t, whole(append(common(), number)...))
	isNone(t, whole(slices.Concat([]api.Node{number, number}, common())...))
	isNone(t, whole(slices.Concat([]api.Node{number, made(0, prim(2, 2))}, common())...))
	isNone(t, whole(slices.Concat([]api.Node{plain(1)}, common())...))
}

// P12.1, P12.2: serial numbers of one byte and many, of 0, below 0.
func TestSerials(t *testing.T) {
	for _, b := range [][]byte{{0}, {1}, {127}, {128}, {255}, {0, 128}, {1, 0}, {128, 0}, {255, 127}, bytes.Repeat([]byte{7}, 8), bytes.Repeat([]byte{9}, 9), bytes.Repeat([]byte{200}, 20), append([]byte{0}, bytes.Repeat([]byte{255}, 20)...), bytes.Repeat([]byte{77}, 127), bytes.Repeat([]byte{77}, 128), bytes.Repeat([]byte{1}, 70000)} {
		want := ofParts(3, 2)
		want.Serial = b
		answers(t, with(full(), serial, prim(2, b...)), want, api.OK)
		want = ofParts(1, 0)
		want.Serial = b
		answers(t, with(ofVersion(1), []int{0, 0}, prim(2, b...)), want, api.OK)
	}
	for _, other := range []api.Node{prim(10, 9), prim(4, 9), prim(3, 0), plain(2, 9), plain(0, 1), made(2), seq(prim(2, 9)), seq(), made(0, prim(2, 1)), prim(6, 42)} {
		isNone(t, with(full(), serial, other))
		isNone(t, with(ofVersion(1), []int{0, 0}, other))
	}
	for _, b := range [][]byte{{}, {0, 0}, {0, 127}, {255, 128}, {255, 255}} {
		answers(t, with(full(), serial, prim(2, b...)), cert.Cert{}, api.ErrDer)
	}
}

// P12.1, P12.2: algorithms of no thing, of one, of two, of three, and such whose first isn't an identifier, in each place.
func TestAlgorithms(t *testing.T) {
	some := []api.Node{prim(5), seq(), seq(prim(6, 42), prim(5)), prim(6, 42, 3), prim(2, 5), plain(0), made(3, prim(5)), set(), prim(3, 0), prim(23, []byte("500101000001Z")...)}
	for _, path := range [][]int{bodyMethod, keyMethod, wholeMethod} {
		isNone(t, withList(full(), path))
		for _, b := range [][]byte{{42}, {0}, {42, 3}, {42, 134, 72, 134, 247, 13, 1, 1, 11}, append(bytes.Repeat([]byte{255}, 20), 1)} {
			answers(t, withList(full(), path, prim(6, b...)), ofParts(3, 2), api.OK)
			isOne(t, withList(full(), path, prim(6, b...)))
		}
		for _, two := range some {
			isOne(t, withList(full(), path, prim(6, 42), two))
			isNone(t, withList(full(), path, prim(6, 42), two, prim(5)))
			isNone(t, withList(full(), path, prim(6, 42), two, prim(6, 42)))
			isNone(t, withList(full(), path, prim(6, 42), prim(5), two))
		}
		for _, first := range []api.Node{prim(5), prim(4, 42), prim(2, 42), plain(6, 42), made(6, prim(6, 42)), seq(prim(6, 42)), seq(), set(prim(6, 42)), prim(12, 42), prim(22, 42), prim(26, 42), prim(3, 0, 42)} {
			isNone(t, withList(full(), path, first))
			isNone(t, withList(full(), path, first, prim(5)))
			isNone(t, withList(full(), path, first, prim(6, 42)))
			isNone(t, withList(full(), path, first, prim(5), prim(5)))
		}
		for _, other := range []api.Node{set(prim(6, 42)), set(prim(6, 42), prim(5)), made(16, prim(6, 42)), made(0, prim(6, 42)), plain(16, 6, 1, 42), prim(6, 42), prim(4, 6, 1, 42), prim(5), seq(one()), seq(seq(prim(6, 42)), prim(5))} {
			isNone(t, with(full(), path, other))
		}
	}
}

// P12.1, P12.2: sequences of which nothing more is asked may have any things, and there may be no other things.
func TestSequences(t *testing.T) {
	may := []api.Node{seq(), seq(prim(5)), seq(seq(), seq()), seq(set(seq(prim(6, 85, 4, 3), prim(12, 65)))), seq(prim(2, 9), prim(2, 8), prim(2, 7)), seq(plain(30), made(0)), one(), such(), key(), seq(prim(6, 42), prim(5), prim(5)), seq(slices.Repeat([]api.Node{prim(5)}, 300)...)}
	mayNot := []api.Node{set(), set(prim(5)), made(16), made(4), plain(16), plain(4), prim(5), prim(4), prim(4, 48, 0), prim(2, 0), prim(3, 0), prim(6, 42), prim(12)}
	for _, path := range [][]int{firstNames, secondNames} {
		for _, n := range may {
			answers(t, with(full(), path, n), ofParts(3, 2), api.OK)
			isOne(t, with(full(), path, n))
		}
		for _, n := range mayNot {
			isNone(t, with(full(), path, n))
		}
	}
}

// P12.1, P12.2: both kinds of times in each place, one, three, and other things.
func TestTimes(t *testing.T) {
	shorts, longs := map[string][6]int{
		"000101000000Z": {2000, 1, 1, 0, 0, 0}, "491231235959Z": {2049, 12, 31, 23, 59, 59}, "500101000000Z": {1950, 1, 1, 0, 0, 0}, "991231235959Z": {1999, 12, 31, 23, 59, 59}, "240229010203Z": {2024, 2, 29, 1, 2, 3},
	}, map[string][6]int{
		"00000101000000Z": {0, 1, 1, 0, 0, 0}, "19000228040506Z": {1900, 2, 28, 4, 5, 6}, "20500101000000Z": {2050, 1, 1, 0, 0, 0}, "99991231235959Z": {9999, 12, 31, 23, 59, 59}, "20000229070809Z": {2000, 2, 29, 7, 8, 9},
	}
	type told struct {
		n api.Node
		m [6]int
	}
	var all []told
	for text, m := range shorts {
		all = append(all, told{prim(23, []byte(text)...), m})
	}
	for text, m := range longs {
		all = append(all, told{prim(24, []byte(text)...), m})
	}
	for _, before := range all {
		for _, after := range all {
			want := ofParts(3, 2)
			want.Before, want.After = before.m, after.m
			answers(t, withList(full(), times, before.n, after.n), want, api.OK)
		}
		isNone(t, withList(full(), times))
		isNone(t, withList(full(), times, before.n))
		isNone(t, withList(full(), times, before.n, before.n, before.n))
		for _, other := range []api.Node{prim(5), prim(4, before.n.B...), prim(22, before.n.B...), plain(23, before.n.B...), plain(24, before.n.B...), made(before.n.Tag), made(before.n.Tag, before.n), seq(before.n), seq(before.n, before.n), prim(2, 9)} {
			isNone(t, withList(full(), times, other, before.n))
			isNone(t, withList(full(), times, before.n, other))
			isNone(t, withList(full(), times, before.n, before.n, other))
			isNone(t, withList(full(), times, other, before.n, before.n))
			isNone(t, withList(full(), times, other, other))
		}
		for _, other := range []api.Node{set(before.n, before.n), made(16, before.n, before.n), made(4, before.n, before.n), plain(16), before.n, prim(5), seq(seq(before.n, before.n))} {
			isNone(t, with(full(), times, other))
		}
	}
}

// P12.1, P12.2: the year of a short time, of each two digits, in both places.
func TestShortYears(t *testing.T) {
	for digits := range 100 {
		year := 1900 + digits
		if digits < 50 {
			year += 100
		}
		n := prim(23, fmt.Appendf(nil, "%02d0708091011Z", digits)...)
		want := ofParts(3, 2)
		want.Before, want.After = [6]int{year, 7, 8, 9, 10, 11}, [6]int{year, 7, 8, 9, 10, 11}
		answers(t, withList(full(), times, n, n), want, api.OK)
	}
}

// P12.1, P12.2: a key is an algorithm and a bit string alone.
func TestKeys(t *testing.T) {
	bits := prim(3, 0, 1)
	for _, l := range [][]api.Node{{}, {one()}, {bits}, {bits, one()}, {one(), one()}, {bits, bits}, {one(), bits, bits}, {one(), bits, prim(5)}, {one(), one(), bits}, {prim(5), one(), bits}, {one(), prim(5), bits}, {seq(), bits}, {seq(one()), bits}, {set(prim(6, 42)), bits}, {one(), seq(bits)}, {one(), prim(4, 0, 1)}, {one(), prim(2, 1)}, {one(), plain(3, 0, 1)}, {one(), made(3, bits)}, {prim(6, 42), bits}} {
		isNone(t, withList(full(), publicKey, l...))
		isNone(t, withList(ofVersion(1), []int{0, 5}, l...))
	}
	isOne(t, withList(full(), publicKey, one(), bits))
	for _, other := range []api.Node{set(one(), bits), made(16, one(), bits), made(6, one(), bits), plain(16), bits, one(), prim(5), seq(key())} {
		isNone(t, with(full(), publicKey, other))
	}
}

// P12.1, P12.2: in the key not all bits need be used, and Bits tells how many are; at the end of the whole they must be.
func TestBits(t *testing.T) {
	for _, c := range []struct {
		b    []byte
		bits int
	}{
		{[]byte{0}, 0}, {[]byte{0, 0}, 8}, {[]byte{0, 255}, 8}, {[]byte{1, 254}, 7}, {[]byte{1, 0}, 7}, {[]byte{4, 240}, 4}, {[]byte{7, 128}, 1}, {[]byte{7, 0}, 1}, {[]byte{0, 1, 2}, 16}, {[]byte{1, 1, 2}, 15}, {[]byte{7, 1, 128}, 9}, {make([]byte, 129), 1024}, {append([]byte{3}, make([]byte, 70000)...), 8*70000 - 3},
	} {
		want := ofParts(3, 2)
		want.Bits = c.bits
		answers(t, with(full(), keyBits, prim(3, c.b...)), want, api.OK)
		isOne(t, with(full(), keyBits, prim(3, c.b...)))
		if c.b[0] == 0 {
			answers(t, with(full(), wholeBits, prim(3, c.b...)), ofParts(3, 2), api.OK)
		} else {
			isNone(t, with(full(), wholeBits, prim(3, c.b...)))
		}
	}
	for _, b := range [][]byte{{}, {1}, {7}, {8, 0}, {1, 1}, {7, 64}} {
		answers(t, with(full(), keyBits, prim(3, b...)), cert.Cert{}, api.ErrDer)
		answers(t, with(full(), wholeBits, prim(3, b...)), cert.Cert{}, api.ErrDer)
	}
	for _, other := range []api.Node{prim(4, 0, 7), prim(2, 0), prim(1, 0), plain(3, 0, 7), made(3, prim(3, 0, 7)), seq(prim(3, 0, 7)), seq(), prim(5), prim(6, 42)} {
		isNone(t, with(full(), wholeBits, other))
		isNone(t, with(full(), keyBits, other))
	}
}

// P12.1, P12.2: what may stand behind the key.
func TestBehindTheKey(t *testing.T) {
	exts := made(3, seq(prim(5)))
	for _, version := range []int{2, 3} {
		for _, b := range [][]byte{{}, {0}, {7, 0}, {0, 1, 2}, {8}, {255, 255}, {5, 1}} { // they may be any
			isOne(t, ofVersion(version, plain(1, b...)))
			isOne(t, ofVersion(version, plain(2, b...)))
			isOne(t, ofVersion(version, plain(1, b...), plain(2, b...)))
		}
		for _, l := range [][]api.Node{
			{plain(2), plain(1)}, {plain(1), plain(1)}, {plain(2), plain(2)}, {plain(1), plain(2), plain(1)}, {plain(1), plain(2), plain(2)}, {plain(1), plain(1), plain(2)}, {plain(2), plain(1), plain(2)},
			{made(1)}, {made(2)}, {made(1, prim(5))}, {made(1), made(2)}, {plain(1), made(2)}, {made(1), plain(2)}, {made(2, prim(3, 0))},
			{prim(1, 0)}, {prim(2, 7)}, {prim(3, 0)}, {seq()}, {set()}, {prim(5)}, {plain(0)}, {plain(3)}, {plain(4)}, {plain(30)}, {made(4, seq())}, {made(0, seq())}, {key()},
			{plain(1), prim(5)}, {plain(1), plain(2), prim(5)}, {plain(2), seq()}, {prim(5), plain(1)}, {prim(5), plain(2)},
			{exts, plain(1)}, {exts, plain(2)}, {plain(1), exts, plain(2)}, {exts, plain(1), plain(2)}, {exts, exts}, {exts, prim(5)}, {exts, seq()}, {prim(5), exts}, {plain(1), plain(2), exts, plain(3)}, {plain(1), plain(2), exts, exts},
		} {
			isNone(t, ofVersion(version, l...))
			isNone(t, ofVersion(1, l...))
		}
	}
	// Ahead of the key.
	for _, n := range []api.Node{plain(1), plain(2), exts} {
		for i := range 7 {
			isNone(t, whole(slices.Insert(common(), i, n)...))
			isNone(t, withList(full(), body, slices.Insert(full().L[0].L, i, n)...))
			isNone(t, withList(ofVersion(3), body, slices.Insert(ofVersion(3).L[0].L, i, n)...))
		}
	}
}

// P12.1, P12.2: extensions are counted, whatever they are; what has them is made of one sequence.
func TestExtensions(t *testing.T) {
	for _, count := range []int{0, 1, 2, 3, 127, 128, 1000, 5000} {
		for _, in := range []api.Node{prim(5), seq(), seq(prim(6, 85, 29, 15), prim(4)), plain(0), made(3, seq())} {
			answers(t, withList(full(), extensionRow, slices.Repeat([]api.Node{in}, count)...), ofParts(3, count), api.OK)
		}
	}
	isOne(t, withList(full(), extensionRow, prim(6, 42))) // an algorithm is a sequence, too, and so are times and a key
	isOne(t, with(full(), extensionRow, such()))
	isOne(t, with(full(), extensionRow, key()))
	for _, l := range [][]api.Node{{}, {seq(), seq()}, {seq(), prim(5)}, {prim(5), seq()}, {set()}, {set(seq())}, {prim(5)}, {prim(2, 2)}, {prim(4, 48, 0)}, {made(16)}, {made(3, seq())}, {plain(16)}, {seq(), seq(), seq()}} {
		isNone(t, withList(full(), extensions, l...))
		isNone(t, ofVersion(3, made(3, l...)))
	}
	for _, other := range []api.Node{plain(3), plain(3, 48, 0), made(0, seq()), made(1, seq()), made(2, seq()), made(4, seq()), made(16, seq()), made(30, seq()), seq(seq()), set(seq()), seq(), prim(3, 0), prim(5)} {
		isNone(t, with(full(), extensions, other))
		isNone(t, ofVersion(3, other))
	}
}

// P12.1, P12.2: each thing of the whole and of the body left out, doubled, in another place. Here which may is told by hand.
func TestLeftOutDoubledMoved(t *testing.T) {
	all := full()
	for i := range all.L {
		isNone(t, withList(all, nil, slices.Delete(copied(all).L, i, i+1)...))
		isNone(t, withList(all, nil, slices.Insert(copied(all).L, i, all.L[i])...))
		for k := range i {
			moved := copied(all)
			moved.L[i], moved.L[k] = moved.L[k], moved.L[i]
			isNone(t, moved)
		}
	}
	things := all.L[0].L
	for i := range things {
		less := withList(all, body, slices.Delete(slices.Clone(things), i, i+1)...)
		switch i {
		case 7, 8:
			answers(t, less, ofParts(3, 2), api.OK)
		case 9:
			answers(t, less, ofParts(3, 0), api.OK)
		default:
			isNone(t, less)
		}
		isNone(t, withList(all, body, slices.Insert(slices.Clone(things), i, things[i])...))
		for k := range i {
			moved := copied(all)
			l := moved.L[0].L
			l[i], l[k] = l[k], l[i]
			if k == 3 && i == 5 { // both are sequences of which nothing more is asked
				isOne(t, moved)
			} else {
				isNone(t, moved)
			}
		}
	}
	least := ofVersion(1).L[0].L
	for i := range least {
		isNone(t, whole(slices.Delete(slices.Clone(least), i, i+1)...))
		isNone(t, whole(slices.Insert(slices.Clone(least), i, least[i])...))
	}
	isNone(t, whole())
	isNone(t, seq())
	for i := range things {
		less := things[:i]
		if i < 7 {
			isNone(t, whole(less...))
		} else {
			isOne(t, whole(less...))
		}
		if i > 0 {
			isNone(t, whole(things[i:]...))
		}
	}
}

// P12.1, P12.2: one thing more behind the last one, whatever it is, in the whole and in the body.
func TestOneMore(t *testing.T) {
	for _, n := range []api.Node{full(), ofVersion(1), ofVersion(2), ofVersion(2, plain(1)), ofVersion(3), ofVersion(3, plain(2))} {
		for _, more := range []api.Node{prim(5), seq(), set(), one(), such(), key(), prim(3, 0, 7), prim(2, 9), plain(0), plain(4), made(0, prim(2, 1)), made(1), made(2), made(4, seq()), copied(n)} {
			isNone(t, withList(n, nil, append(slices.Clone(n.L), more)...))
			isNone(t, withList(n, body, append(slices.Clone(n.L[0].L), more)...))
			isNone(t, withList(n, nil, append([]api.Node{more}, n.L...)...))
			isNone(t, withList(n, body, append([]api.Node{prim(5)}, n.L[0].L...)...))
		}
	}
}

// P12.1, P12.2: the whole and its body are sequences.
func TestWholeThings(t *testing.T) {
	n := full()
	for _, of := range []func(l ...api.Node) api.Node{
		set,
		func(l ...api.Node) api.Node { return made(16, l...) },
		func(l ...api.Node) api.Node { return made(0, l...) },
		func(l ...api.Node) api.Node { return seq(seq(l...)) },
	} {
		isNone(t, of(n.L...))
		isNone(t, with(n, body, of(n.L[0].L...)))
	}
	for _, other := range []api.Node{prim(5), prim(4, 48, 0), plain(16, 1), plain(0), seq(), set(), prim(2, 1), one(), such(), key()} {
		isNone(t, other)
		isNone(t, with(n, body, other))
	}
	isNone(t, seq(n))
	isNone(t, n.L[0])
}

// replacements are things that may stand, each somewhere else.
func replacements() []api.Node {
	return []api.Node{
		prim(1, 0), prim(2, 0), prim(2, 1), prim(2, 2), prim(2, 3), prim(3, 0), prim(3, 0, 1), prim(3, 1, 2), prim(4), prim(4, 1), prim(5), prim(6, 42), prim(10, 1), prim(12, 65),
		prim(23, []byte("260101000000Z")...), prim(24, []byte("20260101000000Z")...), seq(), seq(prim(5)), set(), set(seq()), one(), such(), key(), seq(prim(6, 42)),
		plain(0), plain(0, 1), plain(1), plain(2, 7), plain(3), plain(4), made(0), made(0, prim(2, 1)), made(0, prim(2, 2)), made(1), made(1, prim(2, 1)), made(2, seq()), made(3), made(3, seq()), made(3, seq(prim(5), seq())), made(3, set()), made(4, seq()), made(16, seq()),
	}
}

// P12.1, P12.2: each thing in each certificate replaced by each of many, and these put ahead of it, and behind.
func TestReplaced(t *testing.T) {
	count := map[api.Errno]int{}
	for _, n := range []api.Node{full(), ofVersion(1), ofVersion(2, plain(2))} {
		for _, path := range paths(n) {
			for _, other := range replacements() {
				count[held(t, with(n, path, other))]++
				if len(path) == 0 {
					continue
				}
				up, i := path[:len(path)-1], path[len(path)-1]
				l := at(&n, up).L
				count[held(t, withList(n, up, slices.Insert(slices.Clone(l), i, other)...))]++
				count[held(t, withList(n, up, slices.Insert(slices.Clone(l), i+1, other)...))]++
			}
		}
	}
	if count[api.OK] < 500 || count[api.ErrForm] < 5000 || len(count) > 2 {
		t.Errorf("the answers: %v", count)
	}
}

// P12.1, P12.2: each thing in a certificate of another class, of another tag, made of others or not.
func TestOtherKinds(t *testing.T) {
	count := map[api.Errno]int{}
	for _, n := range []api.Node{full(), ofVersion(1)} {
		for _, path := range paths(n) {
			for _, class := range []int{-1, 0, 1, 2, 3, math.MinInt, math.MaxInt} {
				for tag := -1; tag <= 32; tag++ {
					for _, isMade := range []bool{false, true} {
						other := copied(n)
						x := at(&other, path)
						x.Class, x.Tag, x.Made = class, tag, isMade
						count[held(t, other)]++
						if isMade {
							x.B, x.L = nil, []api.Node{prim(5)}
						} else {
							x.B, x.L = []byte{0}, nil
						}
						count[held(t, other)]++
					}
				}
			}
		}
	}
	if count[api.OK] < 100 || count[api.ErrForm] < 1000 || count[api.ErrDer] < 1000 || len(count) > 3 {
		t.Errorf("the answers: %v", count)
	}
}

// chance tells numbers below the one that it is handed, always the same ones.
func chance(seed uint32) func(below int) int {
	return func(below int) int {
		seed = seed*1664525 + 1013904223
		return int(uint64(seed>>8) * uint64(below) >> 24)
	}
}

// P12.1, P12.2: rows of any things, those of a body among them, and bodies of which some are left out, doubled or moved.
func TestAnyRows(t *testing.T) {
	next := chance(12)
	all := append(replacements(), full().L[0].L...)
	right := 0
	for range 6000 {
		l := slices.Clone(full().L[0].L)
		for range next(4) {
			i := next(len(l))
			switch next(4) {
			case 0:
				l = slices.Delete(l, i, i+1)
			case 1:
				l = slices.Insert(l, i, all[next(len(all))])
			case 2:
				l[i] = all[next(len(all))]
			default:
				k := next(len(l))
				l[i], l[k] = l[k], l[i]
			}
		}
		if held(t, whole(l...)) == api.OK {
			right++
		}
	}
	if right < 600 || right > 5400 {
		t.Errorf("%d are certificates", right)
	}
}
