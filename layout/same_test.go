package layout_test

import (
	"testing"

	"passepartout/api"
	"passepartout/layout"
)

// same asks what Same answers, of both orders.
func same(t *testing.T, what string, a, b api.Form, want bool) {
	t.Helper()
	if layout.Same(a, b) != want || layout.Same(b, a) != want {
		t.Errorf("%s: Same: %v, %v; want %v", what, layout.Same(a, b), layout.Same(b, a), want)
	}
}

// P4.2: forms that differ in one field only differ if it plays a part in their Kind.
func TestSameByFields(t *testing.T) {
	for _, c := range []struct {
		kind                       int
		size, lo, hi, step, inside bool
	}{
		{kind: api.Number, size: true},
		{kind: api.Opaque, size: true, lo: true, hi: true, step: true},
		{kind: api.List, size: true, lo: true, hi: true, step: true, inside: true},
		{kind: api.Row, inside: true},
		{kind: api.Rest, lo: true, hi: true},
		{kind: api.Fixed, lo: true},
		{kind: -1}, {kind: 6}, {kind: 77}, {kind: 1 << 32},
	} {
		f := api.Form{Kind: c.kind, Size: 1, Lo: 1, Hi: 1, Step: 1, Parts: repeat(layout.Number(1), 1)}
		same(t, "no field", f, f, true)
		same(t, "no field", f, apart(f), true)
		for _, x := range edges {
			g := f
			g.Size = x
			same(t, "Size", f, g, x == 1 || !c.size)
			g = f
			g.Lo = x
			same(t, "Lo", f, g, x == 1 || !c.lo)
			g = f
			g.Hi = x
			same(t, "Hi", f, g, x == 1 || !c.hi)
			g = f
			g.Step = x
			same(t, "Step", f, g, x == 1 || !c.step)
			g = f
			g.Kind = x
			same(t, "Kind", f, g, x == c.kind)
			g = f
			g.Parts = repeat(layout.Number(x), 1)
			same(t, "a part", f, g, x == 1 || !c.inside)
		}
		for n := range 5 {
			g := f
			g.Parts = repeat(layout.Number(1), n)
			same(t, "the number of parts", f, g, n == 1 || !c.inside)
		}
		none, empty := f, f
		none.Parts, empty.Parts = nil, []api.Form{}
		same(t, "a nil list and an empty one", none, empty, true)
		same(t, "a nil list", f, none, !c.inside)
	}
}

// P4.2: the same parts are as many, in the same order, each the same by its own Kind.
func TestSameByParts(t *testing.T) {
	one, two, three := layout.Number(1), layout.Number(2), layout.Number(3)
	same(t, "Rows", layout.Row(one, two, three), layout.Row(one, two, three), true)
	same(t, "the first", layout.Row(one, two, three), layout.Row(two, two, three), false)
	same(t, "the middle", layout.Row(one, two, three), layout.Row(one, one, three), false)
	same(t, "the last", layout.Row(one, two, three), layout.Row(one, two, two), false)
	same(t, "another order", layout.Row(one, two), layout.Row(two, one), false)
	same(t, "fewer", layout.Row(one, two), layout.Row(one, two, three), false)
	same(t, "none", layout.Row(), layout.Row(), true)
	same(t, "none and some", layout.Row(), layout.Row(one), false)
	same(t, "within and without", layout.Row(one), one, false)
	same(t, "a Row more", layout.Row(one), layout.Row(layout.Row(one)), false)
	same(t, "other bounds of Rows", layout.Row(layout.Row(one, two), three), layout.Row(one, layout.Row(two, three)), false)
	same(t, "a Row and a List", api.Form{Kind: api.Row, Parts: repeat(one, 1)}, api.Form{Kind: api.List, Parts: repeat(one, 1)}, false)

	// Fields of parts that play none.
	f := layout.Row(layout.Fixed(1), layout.List(1, 0, 9, 1, layout.Number(2)), api.Form{Kind: 6})
	g := apart(f)
	g.Parts[0].Hi, g.Parts[0].Parts = 7, repeat(one, 3)
	g.Parts[1].Parts[0].Lo = 8
	g.Parts[2].Size, g.Parts[2].Parts = 3, repeat(one, 3)
	same(t, "fields that play no part", f, g, true)
	g.Parts[1].Parts[0].Size = 3
	same(t, "one that does", f, g, false)
}

// P4.2: wrong forms are held against each other as others are.
func TestSameOfWrongForms(t *testing.T) {
	two := api.Form{Kind: api.List, Parts: []api.Form{layout.Number(1), layout.Number(9)}}
	same(t, "Lists of two", two, apart(two), true)
	other := apart(two)
	other.Parts[1].Size = 10
	same(t, "Lists of two", two, other, false)
	many := layout.Row(repeat(layout.Rest(9, 1), 1000)...)
	same(t, "Rows of 1000", many, apart(many), true)
	other = apart(many)
	other.Parts[999].Hi = 2
	same(t, "Rows of 1000", many, other, false)
}

// P4.2: all pairs that the pool makes, against the chapter's words; and their parts' memory plays no part.
func TestSameOfThePool(t *testing.T) {
	var all []api.Form
	for _, p := range pool() {
		all = append(all, p, layout.Row(p), layout.Row(p, p), layout.List(1, 0, 9, 1, p), layout.Row(layout.Number(1), layout.Row(p)))
	}
	others := make([]api.Form, len(all))
	for i := range all {
		others[i] = roomy(all[i])
	}
	for i, a := range all {
		same(t, "with itself", a, a, true)
		same(t, "with one of other memory", a, others[i], true)
		for j := range all {
			want := askedSame(a, all[j])
			same(t, "of the pool", a, all[j], want)
			same(t, "of the pool, other memory", a, others[j], want)
		}
	}
}

// P1, P4.2: forms may be as deep as they like.
func TestSameOfDeepForms(t *testing.T) {
	const deep = 200000
	f := inRows(layout.Number(1), deep)
	same(t, "with itself", f, f, true)
	same(t, "as deep", f, inRows(layout.Number(1), deep), true)
	same(t, "another one at the ground", f, inRows(layout.Number(2), deep), false)
	same(t, "one deeper", f, layout.Row(f), false)
	same(t, "Lists", inLists(layout.Number(1), deep), inLists(layout.Number(1), deep), true)
	same(t, "another List at the ground", inLists(layout.Number(1), deep), inLists(layout.Number(2), deep), false)
}

// P1, P4.2: one list may stand in many places: so many that nobody could go through all of them.
func TestSameOfSharedForms(t *testing.T) {
	shared := func(ground api.Form) api.Form {
		for range 100 {
			ground = layout.Row(ground, ground, ground)
		}
		return ground
	}
	f := shared(layout.Number(1))
	same(t, "with itself", f, f, true)
	same(t, "made apart", f, shared(layout.Number(1)), true)
	same(t, "another ground", f, shared(layout.Number(2)), false)
	same(t, "one deeper", f, layout.Row(f, f, f), false)

	// A form whose list begins in another one's, but is shorter, is another.
	list := repeat(layout.Row(layout.Number(1)), 3)
	short, long := api.Form{Kind: api.Row, Parts: list[:2]}, api.Form{Kind: api.Row, Parts: list}
	same(t, "the beginning of a list", short, long, false)
	same(t, "the beginning of a list, as a part", layout.Row(long, long), layout.Row(long, short), false)
	same(t, "another piece of a list", short, api.Form{Kind: api.Row, Parts: list[1:]}, true)
}

// P1: forms that hold themselves: the call ends, and tells a difference where there is one.
func TestSameOfFormsWithinThemselves(t *testing.T) {
	for _, kind := range []int{api.List, api.Row} {
		for _, n := range []int{1, 2, 32} {
			f := selfHeld(kind, n)
			same(t, "with itself", f, f, true)
			same(t, "with another one", f, selfHeld(kind, n), true)
			same(t, "with one of more parts", f, selfHeld(kind, n+1), false)
			other := selfHeld(kind, n)
			other.Parts[n-1] = layout.Number(1)
			same(t, "with one that ends", f, other, false)
		}
	}
	same(t, "a List and a Row", selfHeld(api.List, 1), selfHeld(api.Row, 1), false)

	// Two rounds of different lengths, which tell the same parts again and again; and one that differs at its end.
	round := func(n, last int) api.Form {
		steps := make([][]api.Form, n)
		for i := range steps {
			steps[i] = make([]api.Form, 2)
		}
		for i := range steps {
			steps[i][0] = layout.Number(1)
			steps[i][1] = api.Form{Kind: api.Row, Parts: steps[(i+1)%n]}
		}
		steps[n-1][0].Size = last
		return api.Form{Kind: api.Row, Parts: steps[0]}
	}
	same(t, "rounds of 4 and 6", round(4, 1), round(6, 1), true)
	same(t, "rounds of 4 and 6, one other", round(4, 1), round(6, 2), false)
	same(t, "rounds of 4 and 6, both other", round(4, 2), round(6, 2), false)
	same(t, "rounds of 3, both other", round(3, 2), round(3, 2), true)
}

// P4.2: a difference is found wherever it stands.
func TestSameFindsEachDifference(t *testing.T) {
	f := layout.Row(layout.Row(layout.Number(1), layout.List(1, 0, 9, 1, layout.Row(layout.Number(1), layout.Opaque(1, 0, 9)))),
		layout.List(2, 0, 99, 1, layout.Row(layout.Fixed(2), layout.Row(layout.Number(2), layout.Number(3)))), layout.Row(), layout.Rest(0, 5))
	for _, path := range [][]int{{0}, {0, 0}, {0, 1}, {0, 1, 0}, {0, 1, 0, 0}, {0, 1, 0, 1}, {1}, {1, 0}, {1, 0, 0}, {1, 0, 1}, {1, 0, 1, 0}, {1, 0, 1, 1}, {2}, {3}} {
		g := apart(f)
		at := &g
		for _, i := range path {
			at = &at.Parts[i]
		}
		at.Kind = 9
		same(t, "one that differs", f, g, false)
	}
}
