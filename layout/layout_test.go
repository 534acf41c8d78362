package layout_test

import (
	"slices"
	"sync"
	"testing"

	"passepartout/api"
	"passepartout/layout"
)

// isForm asks for a form by all its fields.
func isForm(t *testing.T, what string, f, want api.Form) {
	t.Helper()
	if !equal(f, want) {
		t.Errorf("%s: %v; want %v", what, f, want)
	}
}

// measures asks for a right form's lengths, and whether it is open.
func measures(t *testing.T, what string, f api.Form, least, most int, open bool) {
	t.Helper()
	checks(t, what, f, api.OK)
	if l, m, o := layout.Least(f), layout.Most(f), layout.Open(f); l != least || m != most || o != open {
		t.Errorf("%s: Least %d, Most %d, Open %v; want %d, %d, %v", what, l, m, o, least, most, open)
	}
}

func TestExamplesOfTheChapter(t *testing.T) {
	measures(t, "the first", layout.List(2, 2, 65534, 2, layout.Number(2)), 4, 65536, false)
	checks(t, "the second", layout.List(1, 0, 9, 1, layout.Fixed(0)), api.ErrForm)
}

// P4.3: each call fills its own fields, and no others.
func TestFormsMade(t *testing.T) {
	item := layout.Row(layout.Number(2), layout.Opaque(2, 0, 65535))
	isForm(t, "Number", layout.Number(2), api.Form{Kind: 0, Size: 2})
	isForm(t, "Opaque", layout.Opaque(2, 3, 4), api.Form{Kind: 1, Size: 2, Lo: 3, Hi: 4, Step: 1})
	isForm(t, "List", layout.List(2, 3, 4, 5, item), api.Form{Kind: 2, Size: 2, Lo: 3, Hi: 4, Step: 5, Parts: []api.Form{item}})
	isForm(t, "Row", layout.Row(item, layout.Fixed(3)), api.Form{Kind: 3, Parts: []api.Form{item, {Kind: 5, Lo: 3}}})
	isForm(t, "Row of none", layout.Row(), api.Form{Kind: 3})
	isForm(t, "Rest", layout.Rest(3, 4), api.Form{Kind: 4, Lo: 3, Hi: 4})
	isForm(t, "Fixed", layout.Fixed(3), api.Form{Kind: 5, Lo: 3})
}

// P4.3: nothing is checked: every int may be handed in.
func TestFormsMadeOfAnyNumbers(t *testing.T) {
	item := api.Form{Kind: -1, Size: -2, Lo: -3, Hi: -4, Step: -5, Parts: repeat(layout.Rest(9, 1), 2)}
	for _, x := range edges {
		isForm(t, "Number", layout.Number(x), api.Form{Kind: api.Number, Size: x})
		isForm(t, "Fixed", layout.Fixed(x), api.Form{Kind: api.Fixed, Lo: x})
		for _, y := range edges {
			isForm(t, "Rest", layout.Rest(x, y), api.Form{Kind: api.Rest, Lo: x, Hi: y})
			isForm(t, "Opaque", layout.Opaque(x, y, 5), api.Form{Kind: api.Opaque, Size: x, Lo: y, Hi: 5, Step: 1})
			isForm(t, "Opaque", layout.Opaque(5, x, y), api.Form{Kind: api.Opaque, Size: 5, Lo: x, Hi: y, Step: 1})
			isForm(t, "List", layout.List(x, y, 5, 6, item), api.Form{Kind: api.List, Size: x, Lo: y, Hi: 5, Step: 6, Parts: []api.Form{item}})
			isForm(t, "List", layout.List(5, 6, x, y, item), api.Form{Kind: api.List, Size: 5, Lo: 6, Hi: x, Step: y, Parts: []api.Form{item}})
		}
	}
}

// P4.3: a Row has any number of parts of any sort, in their order.
func TestRowOfAnyParts(t *testing.T) {
	for _, n := range []int{1, 2, 31, 32, 33, 1000} {
		parts := make([]api.Form, n)
		for i := range parts {
			parts[i] = api.Form{Kind: i - 3, Size: i, Lo: -i, Hi: i * i, Step: 7 - i}
		}
		isForm(t, "Row", layout.Row(parts...), api.Form{Kind: api.Row, Parts: parts})
	}
	isForm(t, "Row of the pool", layout.Row(pool()...), api.Form{Kind: api.Row, Parts: pool()})
	isForm(t, "Row of an empty list", layout.Row([]api.Form{}...), api.Form{Kind: api.Row})
}

// P2: two forms that were made apart have nothing to do with one another.
func TestFormsMadeApart(t *testing.T) {
	spoil := func(create func() api.Form) {
		f, g := create(), create()
		kept := apart(g)
		for i := range f.Parts {
			f.Parts[i] = spoilt
		}
		isForm(t, "another one", g, kept)
	}
	spoil(func() api.Form { return layout.Row(layout.Number(1), layout.Fixed(2)) })
	spoil(func() api.Form { return layout.List(1, 0, 9, 1, layout.Number(1)) })
}

// Rule 4: what lies behind the length of a list that is handed in isn't handed out, nor written by who gets the form.
func TestRowLeavesTheRoomBehind(t *testing.T) {
	list := make([]api.Form, 3)
	list[0], list[1], list[2] = layout.Number(1), layout.Number(2), spoilt
	f := layout.Row(list[:2]...)
	longer := append(f.Parts, layout.Fixed(1))
	isForm(t, "behind the list", list[2], spoilt)
	if len(longer) != 3 || slices.ContainsFunc(f.Parts[:cap(f.Parts)], func(p api.Form) bool { return equal(p, spoilt) }) {
		t.Error("a Row hands out what lies behind its list")
	}
}

// P4.2: the lengths of each Kind, and which of them are open.
func TestLengths(t *testing.T) {
	for _, size := range []int{1, 2, 3, 4, 8} {
		measures(t, "Number", layout.Number(size), size, size, false)
		measures(t, "Number of other fields", api.Form{Size: size, Lo: 3, Hi: 9, Step: -1, Parts: repeat(layout.Rest(1, 2), 3)}, size, size, false)
	}
	for size, most := range lengthMost {
		for _, span := range [][2]int{{0, 0}, {0, 1}, {1, 1}, {0, most}, {most - 1, most}, {most, most}} {
			lo, hi := span[0], span[1]
			measures(t, "Opaque", layout.Opaque(size, lo, hi), size+lo, size+hi, false)
			measures(t, "List", layout.List(size, lo, hi, 65536, layout.Fixed(5)), size+lo, size+hi, false)
			measures(t, "Opaque of steps and parts", api.Form{Kind: api.Opaque, Size: size, Lo: lo, Hi: hi, Step: 7, Parts: repeat(layout.Rest(1, 2), 3)}, size+lo, size+hi, false)
			measures(t, "Rest", layout.Rest(lo, hi), lo, hi, true)
			measures(t, "Rest of other fields", api.Form{Kind: api.Rest, Size: -3, Lo: lo, Hi: hi, Step: -3, Parts: repeat(layout.Fixed(1), 3)}, lo, hi, true)
		}
		measures(t, "Fixed", layout.Fixed(most), most, most, false)
		measures(t, "Fixed of other fields", api.Form{Kind: api.Fixed, Size: 9, Lo: most, Hi: 3, Step: 9, Parts: repeat(layout.Rest(1, 2), 3)}, most, most, false)
	}
	measures(t, "Fixed of none", layout.Fixed(0), 0, 0, false)
}

// P4.2: a Row has its parts' lengths together, and is open if its last part is.
func TestLengthsOfRows(t *testing.T) {
	rest, number := layout.Rest(1, 7), layout.Number(2)
	measures(t, "none", layout.Row(), 0, 0, false)
	measures(t, "none with other fields", api.Form{Kind: api.Row, Size: 9, Lo: 8, Hi: 7, Step: 6}, 0, 0, false)
	measures(t, "one", layout.Row(number), 2, 2, false)
	measures(t, "a Rest", layout.Row(rest), 1, 7, true)
	measures(t, "a Rest at last", layout.Row(number, rest), 3, 9, true)
	measures(t, "a Rest in Rows", layout.Row(number, layout.Row(number, layout.Row(rest))), 5, 11, true)
	measures(t, "a Row without parts at last", layout.Row(number, layout.Row()), 2, 2, false)
	measures(t, "different ones", layout.Row(number, layout.Fixed(32), layout.Opaque(1, 0, 32), layout.List(2, 8, 65535, 1, layout.Number(1)), rest), 46, 65611, true)
	measures(t, "MaxParts", layout.Row(repeat(layout.Opaque(3, 5, 1<<24-1), 32)...), 32*8, 32*(1<<24+2), false)
	measures(t, "a List of Rows", layout.List(1, 3, 9, 3, layout.Row(number, layout.Number(1))), 4, 10, false)
	measures(t, "MaxDepth", inRows(rest, 7), 1, 7, true)

	// Greater than 32 bits hold.
	wide := layout.Row(repeat(layout.Row(repeat(layout.Fixed(1<<24-1), 32)...), 32)...)
	measures(t, "32 Rows of 32", wide, 1024*(1<<24-1), 1024*(1<<24-1), false)
	measures(t, "32 of these", layout.Row(repeat(wide, 32)...), 32768*(1<<24-1), 32768*(1<<24-1), false)
}

// P4.2: of all right forms that two of the pool make.
func TestLengthsOfThePool(t *testing.T) {
	right := 0
	for _, a := range pool() {
		for _, b := range pool() {
			for _, f := range []api.Form{a, layout.Row(a, b), layout.Row(layout.Row(a), b), layout.Row(a, layout.Row(b)), layout.List(1, 2, 4, 1, layout.Row(a, b))} {
				if askedCheck(f) != api.OK {
					continue
				}
				least, most := askedLengths(f)
				measures(t, "of the pool", f, least, most, askedOpen(f))
				right++
			}
		}
	}
	if right < 500 {
		t.Errorf("only %d right forms", right)
	}
}

// each calls all of the package's calls that ask something of a form.
func each(f api.Form) {
	layout.Check(f)
	layout.Open(f)
	layout.Least(f)
	layout.Most(f)
	layout.Same(f, f)
	layout.Same(f, apart(f))
	layout.Same(f, layout.Row(f))
}

// P1, P4.2: the calls end of forms of which Check isn't OK, too.
func TestCallsEndOfAnyForm(t *testing.T) {
	parts := pool()
	for _, kind := range slices.Concat(kinds, otherKinds) {
		for _, x := range edges {
			for i := range 5 {
				f := api.Form{Kind: kind, Size: 1, Lo: 1, Hi: 1, Step: 1, Parts: parts[:i]}
				each(f)
				f.Size = x
				each(f)
				f.Lo = x
				each(f)
				f.Hi = x
				each(f)
				f.Step = x
				each(f)
			}
		}
	}
	each(api.Form{Kind: api.Row, Parts: repeat(layout.Fixed(1<<24-1), 100000)})
	each(inRows(layout.Number(1), 10000))
	each(inLists(layout.Number(1), 10000))
}

// P1: the calls end of forms that hold themselves, and of small ones that are too many when each is looked at where it stands.
func TestCallsEndOfFormsWithinThemselves(t *testing.T) {
	for _, kind := range []int{api.List, api.Row} {
		for _, n := range []int{1, 2, 32, 1000} {
			f := selfHeld(kind, n)
			checks(t, "within itself", f, api.ErrDeep)
			checks(t, "one within itself, in a Row", layout.Row(layout.Number(5), f), api.ErrDeep)
			layout.Open(f)
			layout.Least(f)
			layout.Most(f)
		}
	}
	twice := layout.Number(1)
	for range 100 {
		twice = layout.Row(twice, twice)
	}
	checks(t, "2^100 parts", twice, api.ErrDeep)
	layout.Open(twice)
	layout.Least(twice)
	layout.Most(twice)
}

// Rule 4: no call changes what it was handed, nor what lies behind it.
func TestHandedInStays(t *testing.T) {
	for _, p := range pool() {
		for _, f := range []api.Form{p, layout.Row(p, p), layout.List(1, 0, 9, 1, p), layout.Row(layout.Number(1), layout.Row(p), p)} {
			f, g := roomy(f), roomy(f)
			kept := apart(f)
			layout.Check(f)
			layout.Open(f)
			layout.Least(f)
			layout.Most(f)
			layout.Same(f, g)
			layout.Same(f, layout.Row(g))
			layout.Row(f.Parts...)
			layout.Row(f, g)
			layout.List(1, 2, 3, 4, f)
			isForm(t, "what was handed in", f, kept)
			isForm(t, "what was handed in", g, kept)
			if !untouched(f) || !untouched(g) {
				t.Errorf("%v: what lies behind its lists was changed", kept)
			}
		}
	}
}

// Rule 6: calls may be made by many goroutines at a time, of forms that share their parts.
func TestManyAtATime(t *testing.T) {
	shared := layout.Row(layout.Number(2), layout.List(2, 0, 99, 1, layout.Row(layout.Number(1), layout.Opaque(1, 0, 9))), layout.Rest(1, 7))
	var all sync.WaitGroup
	for range 8 {
		all.Go(func() {
			for range 200 {
				f := layout.Row(layout.Fixed(1), shared)
				measures(t, "shared", f, 6, 111, true)
				if !layout.Same(f, layout.Row(layout.Fixed(1), shared)) {
					t.Error("shared: not the same")
				}
			}
		})
	}
	all.Wait()
}
