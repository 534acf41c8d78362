package layout_test

import (
	"math"
	"slices"
	"testing"

	"passepartout/api"
	"passepartout/layout"
)

// P4.1: the Kind is one of the six, whatever else there is.
func TestCheckKind(t *testing.T) {
	for _, kind := range otherKinds {
		checks(t, "another Kind", api.Form{Kind: kind}, api.ErrArg)
		checks(t, "another Kind with all fields", api.Form{Kind: kind, Size: 1, Lo: 1, Hi: 2, Step: 1, Parts: repeat(layout.Number(1), 1)}, api.ErrArg)
		checks(t, "another Kind with wrong fields", api.Form{Kind: kind, Size: -1, Lo: -1, Hi: -2, Step: -1, Parts: repeat(layout.Number(9), 33)}, api.ErrArg)
		checks(t, "another Kind with deep parts", api.Form{Kind: kind, Parts: repeat(inRows(layout.Number(1), 20), 1)}, api.ErrArg)
	}
}

// P4.1: of a Number Size alone is asked.
func TestCheckNumber(t *testing.T) {
	for _, size := range []int{1, 2, 3, 4, 8} {
		checks(t, "Number", layout.Number(size), api.OK)
		checks(t, "Number of other fields", api.Form{Size: size, Lo: -1, Hi: -2, Step: -3, Parts: repeat(inRows(layout.Number(9), 20), 33)}, api.OK)
	}
	for _, size := range []int{math.MinInt, -1 << 32, -8, -2, -1, 0, 5, 6, 7, 9, 10, 16, 1<<32 + 1, 1<<32 + 8, math.MaxInt} {
		checks(t, "Number", layout.Number(size), api.ErrRange)
	}
}

// lengthed are an Opaque and a List of the same fields.
func lengthed(size, lo, hi, step int) []api.Form {
	opaque := api.Form{Kind: api.Opaque, Size: size, Lo: lo, Hi: hi, Step: step}
	return []api.Form{opaque, layout.List(size, lo, hi, step, layout.Number(1))}
}

// checksBoth asks what Check answers of both.
func checksBoth(t *testing.T, size, lo, hi, step int, want api.Errno) {
	t.Helper()
	for _, f := range lengthed(size, lo, hi, step) {
		if e := layout.Check(f); e != want {
			t.Errorf("Kind %d of %d, %d, %d, %d: %v; want %v", f.Kind, size, lo, hi, step, e, want)
		}
	}
}

// P4.1: lengths of an Opaque and a List have 1 to 3 bytes; that goes ahead of all other fields.
func TestCheckSizeOfLengths(t *testing.T) {
	for _, size := range []int{1, 2, 3} {
		checksBoth(t, size, 0, 255, 1, api.OK)
	}
	for _, size := range []int{math.MinInt, -1 << 32, -3, -2, -1, 0, 4, 5, 8, 9, 64, 1<<32 + 1, math.MaxInt} {
		checksBoth(t, size, 0, 255, 1, api.ErrRange)
		checksBoth(t, size, 0, 0, 1, api.ErrRange)
		checksBoth(t, size, -1, 255, 1, api.ErrRange)
		checksBoth(t, size, 5, 4, 1, api.ErrRange)
		checksBoth(t, size, 0, math.MaxInt, 1, api.ErrRange)
		checksBoth(t, size, 0, 255, 0, api.ErrRange)
	}
}

// P4.1: Lo and Hi of an Opaque and a List, by what a number of Size bytes can be.
func TestCheckSpanOfLengths(t *testing.T) {
	for size, most := range lengthMost {
		for _, span := range [][2]int{{0, 0}, {0, 1}, {1, 1}, {1, 2}, {0, most}, {most - 1, most}, {most, most}} {
			checksBoth(t, size, span[0], span[1], 1, api.OK)
		}
		for _, span := range [][2]int{{-1, 0}, {-1, -1}, {-2, -1}, {1, 0}, {2, 1}, {0, -1}, {most, most - 1},
			{0, most + 1}, {most, most + 1}, {most + 1, most + 1}, {most + 1, most}, {0, 1 << 24}, {0, 1 << 32}, {0, 1<<32 + 5},
			{math.MinInt, 5}, {math.MinInt, math.MaxInt}, {math.MinInt, math.MinInt}, {5, math.MinInt}, {0, math.MinInt},
			{0, math.MaxInt}, {math.MaxInt, math.MaxInt}, {math.MaxInt, 5}, {math.MaxInt, math.MinInt}} {
			checksBoth(t, size, span[0], span[1], 1, api.ErrLength)
		}
	}
}

// P4.1: Step of an Opaque and a List.
func TestCheckStep(t *testing.T) {
	for _, step := range []int{1, 2, 3, 255, 256, 65535, 65536} {
		checksBoth(t, 1, 0, 9, step, api.OK)
	}
	for _, step := range []int{math.MinInt, -65536, -2, -1, 0, 65537, 65538, 1 << 32, 1<<32 + 1, math.MaxInt} {
		checksBoth(t, 1, 0, 9, step, api.ErrLength)
		checksBoth(t, 3, 0, 1<<24-1, step, api.ErrLength)
	}
}

// P4.1: of a Rest Lo and Hi, of a Fixed Lo, up to MaxSpan, and nothing else.
func TestCheckRestAndFixed(t *testing.T) {
	const most = 1<<24 - 1
	others := func(f api.Form) api.Form {
		f.Size, f.Step, f.Parts = -1, -1, repeat(inLists(layout.Number(9), 20), 33)
		return f
	}
	for _, span := range [][2]int{{0, 0}, {0, 1}, {1, 1}, {1, 2}, {0, 65536}, {0, most}, {most - 1, most}, {most, most}} {
		checks(t, "Rest", layout.Rest(span[0], span[1]), api.OK)
		checks(t, "Rest", others(layout.Rest(span[0], span[1])), api.OK)
	}
	for _, span := range [][2]int{{-1, 0}, {-1, -1}, {1, 0}, {0, -1}, {most, most - 1}, {0, most + 1}, {most, most + 1}, {most + 1, most + 1},
		{math.MinInt, 5}, {math.MinInt, math.MinInt}, {0, math.MinInt}, {0, math.MaxInt}, {math.MaxInt, math.MaxInt}, {math.MaxInt, 5}} {
		checks(t, "Rest", layout.Rest(span[0], span[1]), api.ErrLength)
	}
	for _, lo := range []int{0, 1, 2, 65536, most - 1, most} {
		for _, hi := range edges {
			checks(t, "Fixed", others(api.Form{Kind: api.Fixed, Lo: lo, Hi: hi}), api.OK)
		}
	}
	for _, lo := range []int{math.MinInt, -1 << 32, -2, -1, most + 1, most + 2, 1 << 31, 1 << 32, 1<<32 + 1, math.MaxInt} {
		checks(t, "Fixed", layout.Fixed(lo), api.ErrLength)
		checks(t, "Fixed", api.Form{Kind: api.Fixed, Lo: lo, Hi: 5}, api.ErrLength)
	}
}

// P4.1: a List has one part, a Row at most MaxParts; other Kinds may have any.
func TestCheckCountOfParts(t *testing.T) {
	for n := range 70 {
		list, row := api.ErrForm, api.ErrForm
		if n == 1 {
			list = api.OK
		}
		if n <= 32 {
			row = api.OK
		}
		parts := repeat(layout.Number(1), n)
		checks(t, "List", api.Form{Kind: api.List, Size: 1, Hi: 9, Step: 1, Parts: parts}, list)
		checks(t, "Row", api.Form{Kind: api.Row, Parts: parts}, row)
		checks(t, "Row of other fields", api.Form{Kind: api.Row, Size: -1, Lo: 9, Hi: -9, Step: -1, Parts: parts}, row)
		checks(t, "Opaque", api.Form{Kind: api.Opaque, Size: 1, Hi: 9, Step: 1, Parts: parts}, api.OK)
	}
	checks(t, "Row", api.Form{Kind: api.Row, Parts: make([]api.Form, 100000)}, api.ErrForm)
	checks(t, "a List of an empty list", api.Form{Kind: api.List, Size: 1, Hi: 9, Step: 1, Parts: []api.Form{}}, api.ErrForm)
	checks(t, "a Row of an empty list", api.Form{Kind: api.Row, Parts: []api.Form{}}, api.OK)
}

// P4.1: within a form itself, Size goes ahead of lengths, and these ahead of the number of parts.
func TestCheckOrderInTheFormItself(t *testing.T) {
	for _, parts := range [][]api.Form{nil, repeat(layout.Number(1), 2), repeat(layout.Number(1), 33)} {
		list := func(size, lo, hi, step int) api.Form {
			return api.Form{Kind: api.List, Size: size, Lo: lo, Hi: hi, Step: step, Parts: parts}
		}
		checks(t, "the number of parts alone", list(1, 0, 9, 1), api.ErrForm)
		checks(t, "Size", list(4, 0, 9, 1), api.ErrRange)
		checks(t, "Size and Lo", list(0, -1, 9, 1), api.ErrRange)
		checks(t, "Size and Step", list(0, 0, 9, 0), api.ErrRange)
		checks(t, "Lo", list(1, -1, 9, 1), api.ErrLength)
		checks(t, "Hi", list(1, 0, 256, 1), api.ErrLength)
		checks(t, "Step", list(1, 0, 9, 0), api.ErrLength)
	}
}

// P4.1: every choice of edges in every field of a form without parts, or with some, against the chapter's words.
func TestCheckOfAllEdges(t *testing.T) {
	few := []int{math.MinInt, -1, 0, 1, 2, 3, 4, 5, 8, 9, 255, 256, 65535, 65536, 65537, 1<<24 - 1, 1 << 24, math.MaxInt}
	lists := [][]api.Form{nil, repeat(layout.Number(2), 1), repeat(layout.Number(7), 2), {layout.Rest(0, 1), layout.Number(1)}}
	for _, kind := range slices.Concat(kinds, []int{-1, 6}) {
		for _, size := range few[1:10] {
			for _, lo := range few {
				for _, hi := range few {
					for _, step := range []int{math.MinInt, 0, 1, 65536, 65537} {
						for _, parts := range lists {
							f := api.Form{Kind: kind, Size: size, Lo: lo, Hi: hi, Step: step, Parts: parts}
							if e, want := layout.Check(f), askedCheck(f); e != want {
								t.Fatalf("Check(%v): %v; want %v", f, e, want)
							}
						}
					}
				}
			}
		}
	}
}

// P4.1: depth up to MaxDepth, by Rows, by Lists, and by both.
func TestCheckDepth(t *testing.T) {
	number := layout.Number(1)
	for n := range 12 {
		want := api.OK
		if n+1 > 8 {
			want = api.ErrDeep
		}
		checks(t, "by Rows", inRows(number, n), want)
		checks(t, "by Lists", inLists(number, n), want)
		for k := range n + 1 {
			checks(t, "Rows in Lists", inLists(inRows(number, k), n-k), want)
			checks(t, "Lists in Rows", inRows(inLists(number, k), n-k), want)
		}
		checks(t, "of a Rest", inRows(layout.Rest(0, 1), n), want)
		checks(t, "of a Fixed", inLists(layout.Fixed(1), n), want)
		checks(t, "of an Opaque", inRows(layout.Opaque(1, 0, 1), n), want)
		checks(t, "of a Row without parts", inRows(layout.Row(), n), want)
		if n > 0 {
			deep := inRows(number, n-1)
			checks(t, "in the first part", layout.Row(deep, number, number), want)
			checks(t, "in the middle", layout.Row(number, deep, number), want)
			checks(t, "in the last part", layout.Row(number, number, deep), want)
			checks(t, "in the last of 32", layout.Row(append(repeat(number, 31), deep)...), want)
			checks(t, "in all parts", layout.Row(deep, deep, deep), want)
		}
	}
}

// P4.1: parts of a Kind that has none play no part in depth, nor in anything.
func TestCheckPartsThatPlayNone(t *testing.T) {
	deep := repeat(inRows(layout.Number(9), 20), 40)
	for _, f := range []api.Form{layout.Number(1), layout.Opaque(1, 1, 9), layout.Rest(1, 9), layout.Fixed(1)} {
		f.Parts = deep
		checks(t, "alone", f, api.OK)
		checks(t, "at MaxDepth", inRows(f, 7), api.OK)
		checks(t, "above MaxDepth", inRows(f, 8), api.ErrDeep)
		f.Parts = selfHeld(f.Kind, 2).Parts
		checks(t, "within itself", f, api.OK)
	}
}

// P4.1: ErrDeep goes ahead of all that is wrong with the form itself, with its parts, and with their places.
func TestCheckDepthGoesAhead(t *testing.T) {
	deep, rest := inRows(layout.Number(1), 8), layout.Rest(0, 1)
	checks(t, "a List's Size", layout.List(0, 0, 9, 1, deep), api.ErrDeep)
	checks(t, "a List's Lo", layout.List(1, -1, 9, 1, deep), api.ErrDeep)
	checks(t, "a List's Step", layout.List(1, 0, 9, 0, deep), api.ErrDeep)
	checks(t, "a List's parts", api.Form{Kind: api.List, Size: 1, Step: 1, Parts: []api.Form{layout.Number(1), deep}}, api.ErrDeep)
	checks(t, "a Row's parts", layout.Row(append(repeat(layout.Number(1), 32), deep)...), api.ErrDeep)
	checks(t, "a part ahead", layout.Row(layout.Number(9), api.Form{Kind: 6}, deep), api.ErrDeep)
	checks(t, "a part behind", layout.Row(deep, layout.Number(9)), api.ErrDeep)
	checks(t, "places", layout.Row(rest, rest, deep), api.ErrDeep)
	checks(t, "the innermost", inRows(api.Form{Kind: 6}, 8), api.ErrDeep)
	checks(t, "the innermost, not too deep", inRows(api.Form{Kind: 6}, 7), api.ErrArg)
	checks(t, "a List without bytes", inLists(layout.Fixed(0), 8), api.ErrDeep)
	checks(t, "a List without bytes, not too deep", inLists(layout.Fixed(0), 7), api.ErrForm)
}

// P4.1: the form itself goes ahead of its parts, these go in order, and their places come last.
func TestCheckOrderOfParts(t *testing.T) {
	size, length, kind, form := layout.Number(9), layout.Fixed(-1), api.Form{Kind: 6}, layout.List(1, 0, 9, 1, layout.Row())
	rest, number := layout.Rest(0, 1), layout.Number(1)
	for _, c := range []struct {
		part api.Form
		e    api.Errno
	}{{size, api.ErrRange}, {length, api.ErrLength}, {kind, api.ErrArg}, {form, api.ErrForm}} {
		checks(t, "a part", layout.Row(c.part), c.e)
		checks(t, "a List's part", layout.List(1, 0, 9, 1, c.part), c.e)
		checks(t, "the last part", layout.Row(number, number, c.part), c.e)
		checks(t, "a part's part", layout.Row(number, layout.Row(number, c.part)), c.e)
		checks(t, "behind an open one", layout.Row(rest, number, c.part), c.e)
		checks(t, "between open ones", layout.Row(rest, c.part, rest, rest), c.e)
		checks(t, "a part of an open one", layout.Row(layout.Row(c.part, rest), number), c.e)
		checks(t, "a List's empty part", layout.List(1, 0, 9, 1, layout.Row(c.part, rest)), c.e)
		for _, other := range []api.Form{size, length, kind, form} {
			checks(t, "ahead of another", layout.Row(number, c.part, other), c.e)
			checks(t, "in a part ahead of another", layout.Row(layout.Row(number, c.part), other), c.e)
		}
		checks(t, "a wrong List's Size", layout.List(0, 0, 9, 1, c.part), api.ErrRange)
		checks(t, "a wrong List's Hi", layout.List(1, 0, 256, 1, c.part), api.ErrLength)
		checks(t, "a wrong List's Step", layout.List(1, 0, 9, 0, c.part), api.ErrLength)
		checks(t, "a List of two", api.Form{Kind: api.List, Size: 1, Step: 1, Parts: repeat(c.part, 2)}, api.ErrForm)
		checks(t, "a Row of too many", layout.Row(repeat(c.part, 33)...), api.ErrForm)
	}
	// A part's places come ahead of the next part's own errors.
	checks(t, "places in a part", layout.Row(layout.Row(rest, number), size), api.ErrForm)
	checks(t, "places behind a part", layout.Row(size, layout.Row(rest, number)), api.ErrRange)
}

// P4.1: where parts that are open or may be empty may stand.
func TestCheckPlaces(t *testing.T) {
	rest, number, none := layout.Rest(1, 2), layout.Number(1), layout.Fixed(0)
	open := []api.Form{rest, layout.Row(rest), layout.Row(number, rest), layout.Row(number, layout.Row(none, rest)), inRows(layout.Rest(0, 0), 5)}
	for _, f := range open {
		checks(t, "open, alone", f, api.OK)
		checks(t, "open, in a List", layout.List(1, 0, 9, 1, f), api.ErrForm)
		checks(t, "open, the only one", layout.Row(f), api.OK)
		checks(t, "open, the last", layout.Row(number, f), api.OK)
		checks(t, "open, the first of two", layout.Row(f, number), api.ErrForm)
		checks(t, "open, the middle", layout.Row(number, f, number), api.ErrForm)
		checks(t, "open, the last but one of 32", layout.Row(append(repeat(number, 30), f, number)...), api.ErrForm)
		checks(t, "open, twice", layout.Row(f, f), api.ErrForm)
		checks(t, "open, ahead of one without bytes", layout.Row(f, none), api.ErrForm)
		checks(t, "open, ahead of a Row without parts", layout.Row(f, layout.Row()), api.ErrForm)
	}
	for _, f := range []api.Form{none, layout.Row(), layout.Row(none, none), layout.Row(layout.Row(), layout.Row(none)), layout.Rest(0, 9)} {
		checks(t, "empty, in a List", layout.List(1, 0, 9, 1, f), api.ErrForm)
		checks(t, "empty, in a Row", layout.Row(number, f), api.OK)
		checks(t, "empty, in a Row in a List", layout.List(1, 0, 9, 1, layout.Row(f)), api.ErrForm)
	}
	for _, f := range []api.Form{number, layout.Fixed(1), layout.Opaque(1, 0, 0), layout.List(1, 0, 0, 1, number), layout.Row(none, number, none), layout.Row(layout.Row(), layout.Fixed(1)),
		{Kind: api.Fixed, Lo: 1, Hi: 0, Parts: repeat(rest, 1)}, {Kind: api.Opaque, Size: 1, Step: 1, Parts: repeat(rest, 1)}} {
		checks(t, "neither, in a List", layout.List(1, 0, 9, 1, f), api.OK)
		checks(t, "neither, in a Row", layout.Row(f, f), api.OK)
	}
	checks(t, "an open List isn't", layout.Row(layout.List(1, 0, 9, 1, layout.Row(rest, number)), number), api.ErrForm)
}

// P4.1: all Rows and Lists that the pool makes, against the chapter's words.
func TestCheckOfThePool(t *testing.T) {
	same := func(f api.Form) {
		t.Helper()
		if e, want := layout.Check(f), askedCheck(f); e != want {
			t.Fatalf("Check(%v): %v; want %v", f, e, want)
		}
	}
	all := pool()
	for _, a := range all {
		same(a)
		same(layout.Row(a))
		for _, size := range []int{0, 1} {
			for _, step := range []int{0, 1} {
				same(layout.List(size, 0, 9, step, a))
				same(layout.Row(layout.List(size, 0, 9, step, a)))
				same(layout.List(1, 0, 9, 1, layout.List(size, 0, 9, step, a)))
			}
		}
		for _, b := range all {
			same(layout.List(1, 0, 9, 1, layout.Row(a, b)))
			same(layout.Row(layout.Row(a, b)))
			same(api.Form{Kind: api.List, Size: 1, Step: 1, Parts: []api.Form{a, b}})
			for _, c := range all {
				same(layout.Row(a, b, c))
				same(layout.Row(a, layout.Row(b, c)))
				same(layout.Row(layout.Row(a, b), c))
			}
		}
	}
}
