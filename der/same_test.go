package der_test

import (
	"math"
	"slices"
	"strconv"
	"testing"

	"passepartout/api"
	"passepartout/der"
)

// same asks what Same answers, of both orders.
func same(t *testing.T, what string, a, b api.Node, want bool) {
	t.Helper()
	if der.Same(a, b) != want || der.Same(b, a) != want {
		t.Errorf("%s: Same: %v, %v; want %v", what, der.Same(a, b), der.Same(b, a), want)
	}
}

// deep asks what Depth answers.
func deep(t *testing.T, what string, n api.Node, want int) {
	t.Helper()
	if d := der.Depth(n); d != want {
		t.Errorf("%s: Depth: %d; want %d", what, d, want)
	}
}

// changes make another thing of one, each by one field alone.
func changes() map[string]func(n *api.Node) {
	all := map[string]func(n *api.Node){
		"Made":                 func(n *api.Node) { n.Made = !n.Made },
		"B, one more":          func(n *api.Node) { n.B = append(slices.Clip(n.B), 0) },
		"B, one more ahead":    func(n *api.Node) { n.B = append([]byte{0}, n.B...) },
		"L, one more":          func(n *api.Node) { n.L = append(slices.Clip(n.L), api.Node{}) },
		"L, one more ahead":    func(n *api.Node) { n.L = append([]api.Node{{}}, n.L...) },
		"B, another first one": func(n *api.Node) { n.B = append([]byte{9}, n.B[1:]...) },
		"B, another last one":  func(n *api.Node) { n.B = append(slices.Clone(n.B[:len(n.B)-1]), 9) },
		"B, one less":          func(n *api.Node) { n.B = n.B[1:] },
		"B, none":              func(n *api.Node) { n.B = nil },
		"L, one less":          func(n *api.Node) { n.L = n.L[1:] },
		"L, none":              func(n *api.Node) { n.L = nil },
		"L, turned round":      func(n *api.Node) { n.L = slices.Clone(n.L); slices.Reverse(n.L) },
	}
	for _, x := range []int{1, -1, 2, 64, 256, 1 << 32, math.MaxInt, math.MinInt} {
		all["Class, by "+strconv.Itoa(x)] = func(n *api.Node) { n.Class += x }
		all["Tag, by "+strconv.Itoa(x)] = func(n *api.Node) { n.Tag += x }
	}
	return all
}

// P11.2: things that differ in one field alone, at each depth, ahead of others and behind them.
func TestSameByFields(t *testing.T) {
	ground := api.Node{Class: 2, Tag: 7, Made: true, B: []byte{1, 2, 3}, L: []api.Node{prim(5), seq(prim(1, 0)), plain(1, 2)}}
	same(t, "no field", ground, ground, true)
	for what, change := range changes() {
		other := roomy(ground)
		change(&other)
		for _, beside := range [][]api.Node{nil, {prim(5)}, {seq(ground, ground), {}}} {
			a, b := ground, other
			for range 12 {
				same(t, what, a, b, false)
				same(t, what+", other memory", a, roomy(b), false)
				same(t, "with itself", b, roomy(b), true)
				a, b = seq(slices.Concat(beside, []api.Node{a}, beside)...), seq(slices.Concat(beside, []api.Node{b}, beside)...)
			}
		}
	}
}

// P11.2: an empty list may be nil or not.
func TestSameOfEmpty(t *testing.T) {
	empty := []api.Node{{}, {B: []byte{}}, {L: []api.Node{}}, {B: make([]byte, 0, 9), L: make([]api.Node, 0, 9)}}
	for _, a := range empty {
		for _, b := range empty {
			same(t, "empty", a, b, true)
			same(t, "of empty", seq(a, b), seq(b, a), true)
			same(t, "of one, of two", seq(a), seq(a, b), false)
		}
		same(t, "made of others", a, api.Node{Made: true}, false)
		same(t, "of another tag", a, prim(1), false)
		same(t, "of another class", a, plain(0), false)
	}
	same(t, "bytes, and things of these", api.Node{Class: 2, B: []byte{5, 0}}, api.Node{Class: 2, L: []api.Node{prim(5)}}, false)
	same(t, "other bounds of lists", seq(seq(prim(5), prim(4)), prim(3)), seq(prim(5), seq(prim(4), prim(3))), false)
}

// P11.2: things of all sorts, also such as there aren't, against each other.
func TestSameOfAll(t *testing.T) {
	next := chance(5)
	all := []api.Node{{}, {Class: 1}, {Class: -1}, {Tag: math.MinInt}, {Made: true}, {B: []byte{1}, L: []api.Node{{}}}, {Tag: 4, L: []api.Node{{}, {}}}}
	for range 400 {
		all = append(all, anyThing(1+next(4), next))
	}
	for _, a := range all {
		other := roomy(a)
		for _, b := range all {
			if want := equal(a, b); der.Same(a, b) != want || der.Same(b, other) != want {
				t.Fatalf("Same of %v and %v; want %v", a, b, want)
			}
		}
	}
}

// shapes are lists of things by how many these are with all in them, in every shape: of 0 there is the empty one.
func shapes(most int) [][][]api.Node {
	all := [][][]api.Node{{nil}}
	for count := 1; count <= most; count++ {
		var lists [][]api.Node
		for first := 1; first <= count; first++ { // the first thing with all in it
			for _, in := range all[first-1] {
				for _, others := range all[count-first] {
					lists = append(lists, append([]api.Node{seq(in...)}, others...))
				}
			}
		}
		all = append(all, lists)
	}
	return all
}

// P11.2: the depth of every shape of up to ten things, whatever these are; those deeper than may be are refused, and the others written and read.
func TestDepthOfEveryShape(t *testing.T) {
	found := map[int]int{}
	for _, lists := range shapes(9) {
		for _, l := range lists {
			n := seq(l...)
			want := depthOf(n)
			found[want]++
			for _, other := range []api.Node{n, set(l...), made(2, l...), {L: l}, {Class: -1, Tag: 99, B: []byte{1}, L: l}} {
				if d := der.Depth(other); d != want {
					t.Fatalf("Depth(%v): %d; want %d", other, d, want)
				}
			}
			checks(t, n, wanted(n))
			held(t, bytesOf(n))
		}
	}
	if found[1] != 1 || found[2] != 9 || found[10] != 1 || found[9] != 1+15 || found[8] < 100 {
		t.Errorf("shapes by their depth: %v", found)
	}
}

// P11.2: a thing without others is 1 deep; the deepest of those in it counts, wherever it stands.
func TestDepth(t *testing.T) {
	deep(t, "nothing", api.Node{}, 1)
	deep(t, "bytes", prim(4, 48, 2, 48, 0), 1)
	deep(t, "none", seq(), 1)
	deep(t, "one", seq(seq()), 2)
	deep(t, "the last", seq(prim(5), seq(), seq(prim(5))), 3)
	deep(t, "the first", seq(inSeqs(prim(5), 5), seq(), seq(prim(5))), 7)
	deep(t, "not made of others", api.Node{Tag: 4, L: []api.Node{{L: []api.Node{{}}}}}, 3)
	deep(t, "as deep twice", seq(seq(prim(5)), seq(prim(5))), 3)
	list := []api.Node{seq(prim(5)), seq(seq(prim(5)))}
	deep(t, "the beginning of a list and all of it", seq(seq(list[:1]...), api.Node{L: list[:1]}, api.Node{L: list}), 5)
	deep(t, "none of a list", api.Node{L: list[:0]}, 1)
	deep(t, "the end of a list", seq(api.Node{L: list[:1]}, api.Node{L: list[1:]}, api.Node{L: list[:1]}), 5)
}

// P1, P11.2: things may be as deep as they like.
func TestVeryDeepThings(t *testing.T) {
	const times = 300000
	n := inSeqs(prim(5), times)
	deep(t, "deep", n, times+1)
	same(t, "with itself", n, n, true)
	same(t, "as deep", n, inSeqs(prim(5), times), true)
	same(t, "another one at the ground", n, inSeqs(prim(4), times), false)
	same(t, "one deeper", n, seq(n), false)
	refused(t, n)
}

// refused asks that Check and Write refuse a thing that is too deep, and perhaps holds itself.
func refused(t *testing.T, n api.Node) {
	t.Helper()
	b, e := der.Write(n)
	if check := der.Check(n); check != api.ErrDeep || e != api.ErrDeep || len(b) > 0 {
		t.Errorf("Check: %v; Write: %v, %v", check, len(b), e)
	}
}

// P1, P11.2: one list may stand in many places: so many that nobody could go through all of them.
func TestSharedThings(t *testing.T) {
	shared := func(ground api.Node, levels, wide int) api.Node {
		for range levels {
			ground = seq(slices.Repeat([]api.Node{ground}, wide)...)
		}
		return ground
	}
	n := shared(prim(5), 200, 2)
	deep(t, "shared", n, 201)
	same(t, "with itself", n, n, true)
	same(t, "made apart", n, shared(prim(5), 200, 2), true)
	same(t, "another ground", n, shared(prim(4), 200, 2), false)
	same(t, "one deeper", n, seq(n, n), false)
	refused(t, n)

	wide := shared(prim(5), 7, 1000)
	deep(t, "wide", wide, 8)
	for _, c := range []struct {
		ground api.Node
		want   api.Errno
	}{{prim(5), api.ErrLength}, {seq(), api.ErrLength}, {prim(1), api.ErrDer}, {prim(4, 1), api.ErrLength}} {
		wide := shared(c.ground, 7, 1000)
		if b, e := der.Write(wide); e != c.want || der.Check(wide) != c.want || len(b) > 0 {
			t.Errorf("wide: %v; want %v", e, c.want)
		}
	}
	checks(t, shared(prim(2, 9), 7, 5), api.OK)
	// Two lists that begin in the same place, but have another length, are two.
	list := slices.Repeat([]api.Node{prim(4, 1, 2)}, 3)
	checks(t, seq(api.Node{Tag: 16, Made: true, L: list[:1]}, api.Node{Tag: 16, Made: true, L: list}, api.Node{Tag: 16, Made: true, L: list[:2]}, api.Node{Tag: 16, Made: true, L: list[1:]}, seq()), api.OK)
}

// P1: things that hold themselves: the calls end, and Same tells a difference where there is one.
func TestThingsWithinThemselves(t *testing.T) {
	self := func(wide int) api.Node {
		n := seq(make([]api.Node, wide)...)
		for i := range n.L {
			n.L[i] = n
		}
		return n
	}
	for _, wide := range []int{1, 2, 100} {
		n := self(wide)
		same(t, "with itself", n, n, true)
		same(t, "with another one", n, self(wide), true)
		same(t, "with one of more", n, self(wide+1), false)
		other := self(wide)
		other.L[wide-1] = prim(5)
		same(t, "with one that ends", n, other, false)
		deep(t, "no end", n, math.MaxInt)
		deep(t, "no end within", seq(prim(5), set(n), prim(5)), math.MaxInt)
		refused(t, n)
		refused(t, seq(prim(31), n))
	}
}
