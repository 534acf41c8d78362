package cert_test

import (
	"math"
	"slices"
	"testing"

	"passepartout/api"
	"passepartout/cert"
)

// inSeqs is a thing in so many sequences, one within the other.
func inSeqs(n api.Node, times int) api.Node {
	for range times {
		n = seq(n)
	}
	return n
}

// P12.1: layer 11's errors at each place of a thing that would be a certificate otherwise.
func TestCheckErrors(t *testing.T) {
	for _, n := range []api.Node{full(), ofVersion(1), ofVersion(2, plain(2))} {
		for _, path := range paths(n) {
			for _, c := range []struct {
				spoil func(in *api.Node)
				want  api.Errno
			}{
				{func(in *api.Node) { in.Class = 1 }, api.ErrDer},
				{func(in *api.Node) { in.Class = math.MinInt }, api.ErrDer},
				{func(in *api.Node) { in.Tag = 31 }, api.ErrDer},
				{func(in *api.Node) { in.Tag = math.MaxInt }, api.ErrDer},
				{func(in *api.Node) { in.Tag, in.Class = in.Tag+32, 2 }, api.ErrDer},
				{func(in *api.Node) { in.B, in.L = []byte{5, 0}, []api.Node{prim(5)} }, api.ErrForm},
				{func(in *api.Node) { *in = prim(1, 7) }, api.ErrDer},
				{func(in *api.Node) { *in = prim(2) }, api.ErrDer},
				{func(in *api.Node) { *in = inSeqs(prim(5), 8) }, api.ErrDeep},
				{func(in *api.Node) { *in = prim(5); in.L = []api.Node{inSeqs(prim(5), 8)} }, api.ErrDeep},
			} {
				wrong := copied(n)
				c.spoil(at(&wrong, path))
				answers(t, wrong, cert.Cert{}, c.want)
			}
		}
	}
}

// P12.1: bytes that may not be a certificate's times, bits or identifiers.
func TestCheckBytes(t *testing.T) {
	for _, text := range []string{"", "260101000000", "261301000000Z", "260230000000Z", "20260101000000Z", "260101000000+0000", "2601010000Z"} {
		for _, i := range []int{0, 1} {
			answers(t, with(full(), append(times[:2:2], i), prim(23, []byte(text)...)), cert.Cert{}, api.ErrDer)
		}
	}
	for _, path := range [][]int{bodyMethod, keyMethod, wholeMethod} {
		for _, b := range [][]byte{{}, {128, 1}, {42, 128}} {
			answers(t, withList(full(), path, prim(6, b...)), cert.Cert{}, api.ErrDer)
		}
	}
}

// P12.1: as deep as may be.
func TestCheckDepth(t *testing.T) {
	for deep := range 12 {
		want, e := ofParts(3, 2), api.OK
		if deep > 5 { // the whole, its body, and a sequence are ahead
			want, e = cert.Cert{}, api.ErrDeep
		}
		n := full()
		n = withList(n, firstNames, inSeqs(prim(5), max(deep-1, 0)))
		if deep == 0 {
			n = withList(n, firstNames)
		}
		answers(t, n, want, e)
	}
}

// P12.1: more bytes than a length tells.
func TestCheckLength(t *testing.T) {
	long := prim(4, make([]byte, 1<<24)...)
	for _, path := range [][]int{firstNames, secondNames, extensionRow} {
		answers(t, withList(full(), path, long), cert.Cert{}, api.ErrLength)
		answers(t, withList(ofVersion(1), []int{0, 4}, long), cert.Cert{}, api.ErrLength)
	}
	half := prim(4, make([]byte, 1<<23)...)
	answers(t, withList(full(), firstNames, half, half), cert.Cert{}, api.ErrLength)
	answers(t, with(full(), serial, prim(2, append([]byte{1}, make([]byte, 1<<24)...)...)), cert.Cert{}, api.ErrLength)
	answers(t, with(full(), keyBits, prim(3, make([]byte, 1<<24)...)), cert.Cert{}, api.ErrLength)
	most := withList(full(), firstNames, prim(4, make([]byte, 1<<24-500)...))
	answers(t, most, ofParts(3, 2), api.OK)
}

// P12.1: of two errors layer 11's goes ahead: what is no certificate, and wrong besides.
func TestCheckAhead(t *testing.T) {
	for _, c := range []struct {
		what string
		n    api.Node
		want api.Errno
	}{
		{"no thing at all", api.Node{}, api.ErrDer},
		{"a tag that there isn't", api.Node{Tag: 77}, api.ErrDer},
		{"no certificate, one of three wrong", seq(prim(2, 1), prim(2, 1), prim(2)), api.ErrDer},
		{"no certificate, too deep", inSeqs(prim(5), 8), api.ErrDeep},
		{"no certificate, too deep and wrong", inSeqs(prim(1, 7), 8), api.ErrDeep},
		{"no certificate, too long", seq(prim(4, make([]byte, 1<<24)...)), api.ErrLength},
		{"no certificate, not of the form", api.Node{Tag: 16, Made: true, B: []byte{5, 0}}, api.ErrForm},
		{"no version, the last bits wrong", with(with(full(), version, prim(5)), wholeBits, prim(3)), api.ErrDer},
		{"one thing more, that is wrong", withList(full(), nil, append(full().L, prim(5, 0))...), api.ErrDer},
		{"one thing more in the body, the last bits too long", with(withList(full(), body, append(full().L[0].L, prim(5))...), wholeBits, prim(3, make([]byte, 1<<24+1)...)), api.ErrLength},
		{"a version 1 with extensions, one of them wrong", ofVersion(1, made(3, seq(prim(5, 5)))), api.ErrDer},
	} {
		t.Run(c.what, func(t *testing.T) { answers(t, c.n, cert.Cert{}, c.want) })
	}
}

// P1, P12.1: things that hold themselves, or that would unfold to more than can be gone through.
func TestEnds(t *testing.T) {
	self := full()
	self.L[0].L[3].L = self.L
	answers(t, self, cert.Cert{}, api.ErrDeep)
	ring := seq(prim(5))
	ring.L[0] = ring
	answers(t, ring, cert.Cert{}, api.ErrDeep)
	wide := []api.Node{prim(5)}
	for range 4 {
		wide = slices.Repeat([]api.Node{seq(wide...)}, 1000)
	}
	if c, e := cert.Outer(withList(full(), firstNames, wide...)); e != api.ErrLength || !same(c, cert.Cert{}) {
		t.Errorf("%v, %v", c, e)
	}
}
