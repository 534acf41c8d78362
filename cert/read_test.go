package cert_test

import (
	"encoding/hex"
	"slices"
	"testing"

	"passepartout/api"
	"passepartout/cert"
	"passepartout/der"
)

// aWholeOne is a certificate that a program of another kind made.
const aWholeOne = "3082017f30820131a003020102020500c0ffee01300506032b65703038310b300906035504061302585831133011060355040a130a416e206578616d" +
	"706c65311430120603550403130b6578616d706c652e6f72673020170d3236313131393031303230335a180f32303531313233313233353935395a30" +
	"38310b300906035504061302585831133011060355040a130a416e206578616d706c65311430120603550403130b6578616d706c652e6f7267302a30" +
	"0506032b65700321003b6a27bcceb6a42d62a3a8d02a6f0d73653215771de243a63ac048a18b59da29a35a3058300e0603551d0f0101ff0404030207" +
	"80300f0603551d130101ff040530030101ff301d0603551d0e04160414139e3940e64b5491722088d9a0d741628fc826e030160603551d11040f300d" +
	"820b6578616d706c652e6f7267300506032b657003410070541883b11cf3dfe173e4d441e4506a292b2bf48804758c1c6f949aa0c420f5c8252a284d" +
	"d33fc98b195046fbd70f822b5be47ad048a0c6e24d68361393230d"

// unhex are the bytes that a text tells.
func unhex(t *testing.T, text string) []byte {
	t.Helper()
	b, e := hex.DecodeString(text)
	if e != nil {
		t.Fatal(e)
	}
	return b
}

// bytesOf are a right thing's bytes.
func bytesOf(t *testing.T, n api.Node) []byte {
	t.Helper()
	b, e := der.Write(n)
	if e != api.OK {
		t.Fatalf("Write(%s): %v", short(n), e)
	}
	return b
}

// P12.2: a certificate as they are made.
func TestReadAWholeOne(t *testing.T) {
	want := cert.Cert{Version: 3, Serial: []byte{0, 0xc0, 0xff, 0xee, 1}, Before: [6]int{2026, 11, 19, 1, 2, 3}, After: [6]int{2051, 12, 31, 23, 59, 59}, Bits: 256, Exts: 4}
	b := unhex(t, aWholeOne)
	reads(t, b, want, len(b), api.OK)
	n, _, _ := der.Read(b, 0)
	answers(t, n, want, api.OK)
}

// P12.2: bytes that are laid by hand: the smallest certificate.
func TestReadSmallest(t *testing.T) {
	b := slices.Concat([]byte{48, 66, 48, 58}, []byte{2, 1, 0}, []byte{48, 3, 6, 1, 0}, []byte{48, 0}, []byte{48, 32, 23, 13}, []byte("490101000000Z"), []byte{24, 15}, []byte("99991231235959Z"), []byte{48, 0}, []byte{48, 8, 48, 3, 6, 1, 0, 3, 1, 0}, []byte{48, 3, 6, 1, 0}, []byte{3, 1, 0})
	b[3] = byte(len(b) - 4 - 5 - 3)
	b[1] = byte(len(b) - 2)
	reads(t, b, cert.Cert{Version: 1, Serial: []byte{0}, Before: [6]int{2049, 1, 1}, After: [6]int{9999, 12, 31, 23, 59, 59}}, len(b), api.OK)
}

// wantedOf is what Read is to tell of bytes, without the base.
func wantedOf(b []byte) (cert.Cert, int, api.Errno) {
	n, at, e := der.Read(b, 0)
	if e != api.OK {
		return cert.Cert{}, at, e
	}
	c, e := wanted(n)
	if e != api.OK {
		return cert.Cert{}, 0, e
	}
	return c, at, api.OK
}

// heldRead holds Read against the document's words.
func heldRead(t *testing.T, b []byte) api.Errno {
	t.Helper()
	c, at, e := wantedOf(b)
	reads(t, b, c, at, e)
	return e
}

// P12.2: bytes cut off at each place, and with one more.
func TestReadCut(t *testing.T) {
	for _, b := range [][]byte{unhex(t, aWholeOne), bytesOf(t, full()), bytesOf(t, ofVersion(1)), bytesOf(t, ofVersion(2, plain(1)))} {
		for n := range b {
			reads(t, b[:n], cert.Cert{}, n, api.ErrShort)
		}
		for more := range 256 {
			reads(t, append(slices.Clone(b), byte(more)), cert.Cert{}, len(b), api.ErrTrail)
		}
		reads(t, slices.Concat(b, b), cert.Cert{}, len(b), api.ErrTrail)
	}
}

// P12.2: bytes of which each one is changed, to every other one: all of layer 11's errors at their places, things that aren't certificates, and such that are.
func TestReadEveryByteChanged(t *testing.T) {
	count := map[api.Errno]int{}
	for _, b := range [][]byte{bytesOf(t, full()), bytesOf(t, ofVersion(1))} {
		for i := range b {
			for x := range 256 {
				other := slices.Clone(b)
				other[i] = byte(x)
				count[heldRead(t, other)]++
			}
		}
	}
	for _, e := range []api.Errno{api.OK, api.ErrShort, api.ErrTrail, api.ErrDer, api.ErrForm} {
		if count[e] < 5 {
			t.Errorf("%v was answered %d times", e, count[e])
		}
	}
}

// P12.2: bytes left out, doubled, and put in.
func TestReadBytesMoved(t *testing.T) {
	for _, b := range [][]byte{bytesOf(t, full()), bytesOf(t, ofVersion(1))} {
		for i := range b {
			heldRead(t, slices.Delete(slices.Clone(b), i, i+1))
			for _, x := range []byte{0, 1, 5, 48, 128, 129, 255, b[i]} {
				heldRead(t, slices.Insert(slices.Clone(b), i, x))
			}
		}
	}
}

// P12.2: what layer 11 refuses is told at its place; what is no certificate, at the base.
func TestReadPlaces(t *testing.T) {
	for _, c := range []struct {
		b    []byte
		want int
		e    api.Errno
	}{
		{nil, 0, api.ErrShort}, {[]byte{}, 0, api.ErrShort}, {[]byte{48}, 1, api.ErrShort}, {[]byte{0, 0}, 0, api.ErrDer}, {[]byte{31, 0}, 0, api.ErrDer}, {[]byte{16, 0}, 0, api.ErrDer}, {[]byte{48, 128}, 1, api.ErrDer}, {[]byte{48, 129, 5}, 1, api.ErrDer}, {[]byte{5, 1}, 2, api.ErrShort}, {[]byte{5, 1, 0}, 2, api.ErrDer},
		{[]byte{48, 2, 5, 1}, 4, api.ErrShort}, {[]byte{48, 3, 5, 0, 5}, 5, api.ErrShort}, {[]byte{48, 4, 5, 0, 0, 0}, 4, api.ErrDer}, {[]byte{48, 0, 48}, 2, api.ErrTrail},
		{[]byte{48, 14, 48, 12, 48, 10, 48, 8, 48, 6, 48, 4, 48, 2, 48, 0}, 0, api.ErrForm}, {[]byte{48, 16, 48, 14, 48, 12, 48, 10, 48, 8, 48, 6, 48, 4, 48, 2, 5, 0}, 16, api.ErrDeep},
		{[]byte{5, 0}, 0, api.ErrForm}, {[]byte{48, 0}, 0, api.ErrForm}, {[]byte{2, 1, 5}, 0, api.ErrForm}, {[]byte{160, 0}, 0, api.ErrForm}, {[]byte{128, 0}, 0, api.ErrForm}, {[]byte{49, 0}, 0, api.ErrForm}, {[]byte{48, 6, 48, 0, 48, 0, 3, 0}, 8, api.ErrDer}, {[]byte{48, 7, 48, 0, 48, 0, 3, 1, 0}, 0, api.ErrForm},
	} {
		reads(t, c.b, cert.Cert{}, c.want, c.e)
	}
	// No certificate, and wrong at its end.
	b := bytesOf(t, ofVersion(1, plain(1)))
	reads(t, b, cert.Cert{}, 0, api.ErrForm)
	reads(t, append(slices.Clone(b), 0), cert.Cert{}, len(b), api.ErrTrail)
	b[len(b)-2] = 8 // how many bits of the last byte aren't used
	reads(t, b, cert.Cert{}, len(b)-2, api.ErrDer)
}

// P12.2: the greatest one that there may be.
func TestReadGreatest(t *testing.T) {
	n := with(full(), keyBits, prim(3, make([]byte, 1<<24-400)...))
	b := bytesOf(t, n)
	want := ofParts(3, 2)
	want.Bits = 8 * (1<<24 - 401)
	reads(t, b, want, len(b), api.OK)
}
