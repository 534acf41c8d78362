package value_test

import (
	"math"
	"slices"
	"testing"

	"passepartout/api"
	"passepartout/layout"
	"passepartout/value"
)

func TestExamplesOfTheChapter(t *testing.T) {
	f := layout.List(1, 2, 4, 2, layout.Number(1))
	sized(t, "5 6", f, value.List(value.Number(5), value.Number(6)), 3)
	fits(t, "5 6 7", f, value.List(value.Number(5), value.Number(6), value.Number(7)), api.ErrLength)
	fits(t, "5 256", f, value.List(value.Number(5), value.Number(256)), api.ErrRange)
}

// P5.1: the form's error goes ahead of all that is wrong with a value.
func TestFitsOfWrongForms(t *testing.T) {
	for _, w := range wrongForms() {
		if e := layout.Check(w.f); e != w.e {
			t.Fatalf("%v isn't such a form: %v", w.f, e)
		}
		for _, v := range values() {
			fits(t, "a wrong form", w.f, v, w.e)
		}
		fits(t, "a wrong form, a value within itself", w.f, selfHeld(2), w.e)

		// As a part it is told ahead, too, even if the value never comes to it.
		if w.e != api.ErrDeep {
			for _, v := range grounds() {
				fits(t, "a wrong part", layout.Row(layout.Number(1), w.f), v, w.e)
				fits(t, "a List's wrong part", layout.List(1, 0, 9, 1, w.f), v, w.e)
			}
		}
	}
	self := api.Form{Kind: api.Row, Parts: make([]api.Form, 1)}
	self.Parts[0] = self
	fits(t, "a form within itself", self, selfHeld(1), api.ErrDeep)
}

// P5.1: what is wrong with a part's depth is told of the whole form alone: at MaxDepth all parts are right.
func TestFitsAtMaxDepth(t *testing.T) {
	f, v := inRows(layout.Number(1), 7), inValues(value.Number(255), 7)
	sized(t, "by Rows", f, v, 1)
	fits(t, "one deeper", f, inValues(v, 1), api.ErrForm)
	fits(t, "one less deep", f, v.L[0], api.ErrForm)
	fits(t, "a number too great at the ground", f, inValues(value.Number(256), 7), api.ErrRange)
	f = layout.Number(2)
	for n := range 7 {
		f = layout.List(1, n, 99, 1, f)
		v = inValues(value.Number(9), n+1)
		sized(t, "by Lists", f, v, 3+n)
	}
}

// P5.1: a Number of each Size, up to 256 to the power of Size.
func TestFitsNumber(t *testing.T) {
	for size, most := range greatest {
		f := layout.Number(size)
		for _, x := range []uint64{0, 1, 127, 128, 254, 255, most / 2, most/2 + 1, most - 1, most} {
			sized(t, "a number", f, value.Number(x), size)
		}
		for _, x := range []uint64{most + 1, most + 2, most << 1, (most + 1) << 8, math.MaxUint64 - 1, math.MaxUint64} {
			if x > most {
				fits(t, "a number too great", f, value.Number(x), api.ErrRange)
			}
		}
		for shift := range 64 {
			want := api.OK
			if shift >= 8*size {
				want = api.ErrRange
			}
			fits(t, "a power of 2", f, value.Number(1<<shift), want)
		}

		// Other fields of the form play no part.
		f.Lo, f.Hi, f.Step, f.Parts = -3, -4, -5, []api.Form{layout.Number(9)}
		sized(t, "a form of other fields", f, value.Number(most), size)
	}
}

// P5.1: an Opaque, a Rest and a Fixed of so many bytes as they may have, and of one less and one more.
func TestFitsBytes(t *testing.T) {
	for _, span := range [][2]int{{0, 0}, {0, 1}, {1, 1}, {1, 2}, {2, 5}, {0, 255}, {254, 255}, {255, 255}} {
		lo, hi := span[0], span[1]
		for n := range 300 {
			some, fixed := api.ErrLength, api.ErrLength
			if lo <= n && n <= hi {
				some = api.OK
			}
			if n == lo {
				fixed = api.OK
			}
			for size := 1; size <= 3; size++ {
				fits(t, "Opaque", layout.Opaque(size, lo, hi), zeros(n), some)
			}
			fits(t, "Rest", layout.Rest(lo, hi), zeros(n), some)
			fits(t, "Rest of other fields", api.Form{Kind: api.Rest, Lo: lo, Hi: hi, Size: 9, Step: 7, Parts: []api.Form{{Kind: 9}}}, zeros(n), some)
			fits(t, "Fixed", layout.Fixed(lo), zeros(n), fixed)
			fits(t, "Fixed of other fields", api.Form{Kind: api.Fixed, Lo: lo, Hi: hi, Size: 9, Step: 7, Parts: []api.Form{{Kind: 9}}}, zeros(n), fixed)
		}
	}
}

// P5.1: the greatest lengths that there are.
func TestFitsManyBytes(t *testing.T) {
	const most = 1<<24 - 1
	sized(t, "Opaque of 2 bytes of length", layout.Opaque(2, 0, 65535), zeros(65535), 65537)
	fits(t, "Opaque of 2 bytes of length, one more", layout.Opaque(2, 0, 65535), zeros(65536), api.ErrLength)
	sized(t, "Opaque", layout.Opaque(3, 0, most), zeros(most), most+3)
	sized(t, "Rest", layout.Rest(0, most), zeros(most), most)
	sized(t, "Fixed", layout.Fixed(most), zeros(most), most)
	for _, f := range []api.Form{layout.Opaque(3, 0, most), layout.Opaque(3, most, most), layout.Rest(0, most), layout.Rest(most, most), layout.Fixed(most)} {
		fits(t, "one more", f, zeros(most+1), api.ErrLength)
	}
	for _, f := range []api.Form{layout.Opaque(3, most, most), layout.Rest(most, most), layout.Fixed(most)} {
		fits(t, "one less", f, zeros(most-1), api.ErrLength)
	}
}

// P5.1: an Opaque has a multiple of Step, a Rest and a Fixed needn't.
func TestFitsStepOfBytes(t *testing.T) {
	for _, step := range []int{1, 2, 3, 4, 7, 10, 65535, 65536} {
		for n := range 40 {
			want := api.OK
			if n%step != 0 {
				want = api.ErrLength
			}
			fits(t, "Opaque", opaque(1, 0, 255, step), zeros(n), want)
		}
		for _, n := range []int{step, 2 * step} {
			sized(t, "a multiple", opaque(3, 0, 1<<24-1, step), zeros(n), 3+n)
			if step > 1 {
				fits(t, "one more than a multiple", opaque(3, 0, 1<<24-1, step), zeros(n+1), api.ErrLength)
				fits(t, "one less than a multiple", opaque(3, 0, 1<<24-1, step), zeros(n-1), api.ErrLength)
			}
		}
	}
	// Multiples that are out of the bounds, and bounds that are no multiples.
	for n := range 20 {
		want := api.ErrLength
		if n == 6 || n == 9 {
			want = api.OK
		}
		fits(t, "from 4 to 11 by 3", opaque(1, 4, 11, 3), zeros(n), want)
		fits(t, "from 5 to 7 by 4: none", opaque(1, 5, 7, 4), zeros(n), api.ErrLength)
	}
}

// P5.1: the sizes of a List's values together are from Lo to Hi, a multiple of Step.
func TestFitsSizesOfList(t *testing.T) {
	for _, item := range []int{1, 2, 3, 4, 8} {
		for _, step := range []int{1, 2, 3, 5, 65536} {
			for _, span := range [][2]int{{0, 0}, {0, 8}, {1, 8}, {6, 6}, {4, 12}, {7, 255}} {
				for n := range 12 {
					sum := n * item
					want := api.ErrLength
					if span[0] <= sum && sum <= span[1] && sum%step == 0 {
						want = api.OK
					}
					f := layout.List(2, span[0], span[1], step, layout.Number(item))
					fits(t, "Numbers", f, numbers(n), want)
					if want == api.OK {
						sized(t, "Numbers", f, numbers(n), 2+sum)
					}
				}
			}
		}
	}
	// Each has a size of its own, with its length.
	f := layout.List(1, 5, 8, 1, layout.Opaque(2, 0, 9))
	sized(t, "5 bytes", f, value.List(zeros(0), zeros(1)), 6)
	sized(t, "8 bytes", f, value.List(zeros(0), zeros(2), zeros(0)), 9)
	fits(t, "4 bytes", f, value.List(zeros(2)), api.ErrLength)
	fits(t, "9 bytes", f, value.List(zeros(2), zeros(1), zeros(0)), api.ErrLength)
	sized(t, "the only one", layout.List(1, 0, 9, 1, layout.Row(layout.Fixed(3), layout.Number(2))), value.List(value.List(zeros(3), value.Number(7))), 6)
}

// P5.1: a List without values, by its Lo.
func TestFitsListWithoutValues(t *testing.T) {
	item := layout.Number(1)
	for _, v := range []api.Value{{}, {L: []api.Value{}}, {B: []byte{}, L: []api.Value{}}, value.List(), value.Bytes(), value.Number(0)} {
		for size := 1; size <= 3; size++ {
			sized(t, "Lo 0", layout.List(size, 0, 9, 2, item), v, size)
			sized(t, "Lo 0, Hi 0", layout.List(size, 0, 0, 65536, item), v, size)
			fits(t, "Lo 1", layout.List(size, 1, 9, 1, item), v, api.ErrLength)
			fits(t, "Lo 2", layout.List(size, 2, 9, 2, item), v, api.ErrLength)
		}
	}
}

// P5.1: the greatest List that there is, and one byte more.
func TestFitsListOfManyValues(t *testing.T) {
	f := layout.List(2, 0, 65535, 1, layout.Number(1))
	sized(t, "65535 of a byte", f, numbers(65535), 65537)
	fits(t, "65536 of a byte", f, numbers(65536), api.ErrLength)
	f = layout.List(3, 0, 1<<24-1, 1, layout.Opaque(2, 0, 65535))
	many := slices.Repeat([]api.Value{zeros(65533)}, 256) // 65535 bytes each
	sized(t, "some bytes less", f, api.Value{L: many}, 3+256*65535)
	many = append(many, zeros(253))
	sized(t, "all of them", f, api.Value{L: many}, 3+1<<24-1)
	many[0] = zeros(65534)
	fits(t, "one more", f, api.Value{L: many}, api.ErrLength)
}

// P5.1: a Row has as many values as it has parts.
func TestFitsNumberOfValuesInRow(t *testing.T) {
	for parts := range 33 {
		f := layout.Row(slices.Repeat([]api.Form{layout.Number(2)}, parts)...)
		for n := range 35 {
			if n == parts {
				sized(t, "as many", f, numbers(n), 2*n)
				continue
			}
			fits(t, "another number", f, numbers(n), api.ErrForm)
		}
	}
	for _, v := range []api.Value{{}, {B: []byte{}, L: []api.Value{}}, value.List()} {
		sized(t, "a Row without parts", layout.Row(), v, 0)
		fits(t, "a Row of one part", layout.Row(layout.Row()), v, api.ErrForm)
		fits(t, "a Row of a part without bytes", layout.Row(layout.Fixed(0)), v, api.ErrForm)
	}
	fits(t, "one in a Row without parts", layout.Row(), value.List(value.List()), api.ErrForm)
	other := api.Form{Kind: api.Row, Size: 9, Lo: 5, Hi: -1, Step: 7, Parts: []api.Form{layout.Number(1)}}
	sized(t, "a Row of other fields", other, numbers(1), 1)
}

// P5.1: a field that isn't the Kind's is 0 or empty, for each Kind and each field, whatever the Kind's own field is.
func TestFitsOwnFieldAlone(t *testing.T) {
	n, b, l := value.Number(1), value.Bytes(0), value.List(api.Value{})
	for _, c := range []struct {
		f     api.Form
		right api.Value
		wrong []api.Value // of the Kind's own field
		n, b  bool        // whether that one is N, or B
	}{
		{layout.Number(1), value.Number(7), []api.Value{value.Number(256)}, true, false},
		{layout.Opaque(1, 2, 2), zeros(2), []api.Value{{}, zeros(1), zeros(3)}, false, true},
		{layout.Rest(2, 2), zeros(2), []api.Value{{}, zeros(1), zeros(3)}, false, true},
		{layout.Fixed(2), zeros(2), []api.Value{{}, zeros(1), zeros(3)}, false, true},
		{layout.List(1, 2, 2, 1, layout.Number(1)), numbers(2), []api.Value{{}, numbers(1), numbers(3), value.List(value.Number(256), zeros(1))}, false, false},
		{layout.Row(layout.Number(1), layout.Number(1)), numbers(2), []api.Value{{}, numbers(1), numbers(3), value.List(value.Number(256), zeros(1))}, false, false},
	} {
		fits(t, "its own field alone", c.f, c.right, api.OK)
		for _, own := range append(c.wrong, c.right) {
			for mask := 1; mask < 8; mask++ {
				v, others := own, false
				if mask&1 != 0 && !c.n {
					v.N, others = n.N, true
				}
				if mask&2 != 0 && !c.b {
					v.B, others = b.B, true
				}
				if mask&4 != 0 && (c.n || c.b) {
					v.L, others = l.L, true
				}
				if others {
					fits(t, "another field", c.f, v, api.ErrForm)
				}
			}
		}
		if c.n {
			c.right.B, c.right.L = []byte{}, []api.Value{}
		} else if c.b {
			c.right.L = []api.Value{}
		} else {
			c.right.B = []byte{}
		}
		fits(t, "other fields that are empty and not nil", c.f, c.right, api.OK)
	}
	fits(t, "the greatest N in a Fixed without bytes", layout.Fixed(0), value.Number(math.MaxUint64), api.ErrForm)
}

// misfit is a form, a value that doesn't fit it, and why.
type misfit struct {
	f api.Form
	v api.Value
	e api.Errno
}

// misfits are such, of each error that Fits has of right forms. Their forms may stand in a List.
func misfits() []misfit {
	number := layout.Number(1)
	return []misfit{
		{number, zeros(1), api.ErrForm},
		{number, value.Number(256), api.ErrRange},
		{layout.Fixed(2), zeros(1), api.ErrLength},
		{layout.Opaque(1, 1, 2), zeros(3), api.ErrLength},
		{layout.Row(number), numbers(2), api.ErrForm},
		{layout.Row(number), value.List(value.Number(256)), api.ErrRange},
		{layout.List(1, 1, 2, 1, number), numbers(3), api.ErrLength},
		{layout.List(1, 1, 2, 1, number), value.List(value.Number(0), value.Number(0), value.Number(256)), api.ErrRange},
	}
}

// P5.1: of several values that don't fit the first one's error is told, however deep it stands.
func TestFitsFirstOfValues(t *testing.T) {
	number, one := layout.Number(1), value.Number(1)
	for _, a := range misfits() {
		fits(t, "alone", a.f, a.v, a.e)
		fits(t, "in a Row", layout.Row(number, a.f), value.List(one, a.v), a.e)
		fits(t, "in a Row in Rows", layout.Row(number, layout.Row(number, layout.Row(a.f, number)), number), value.List(one, value.List(one, value.List(a.v, one)), one), a.e)
		fits(t, "in a List", layout.List(1, 0, 99, 1, a.f), value.List(a.v), a.e)
		fits(t, "in a List in a List", layout.List(1, 0, 99, 1, layout.List(2, 0, 99, 1, a.f)), value.List(value.List(), value.List(a.v)), a.e)
		for _, b := range misfits() {
			fits(t, "two in a Row", layout.Row(number, a.f, b.f), value.List(one, a.v, b.v), a.e)
			fits(t, "a Row in it, then another", layout.Row(layout.Row(number, a.f), b.f), value.List(value.List(one, a.v), b.v), a.e)
			fits(t, "another, then a Row", layout.Row(b.f, layout.Row(a.f)), value.List(b.v, value.List(a.v)), b.e)
			fits(t, "a List, then another", layout.Row(layout.List(1, 0, 99, 1, a.f), b.f), value.List(value.List(a.v), b.v), a.e)
			fits(t, "in one value of a List", layout.List(1, 0, 99, 1, layout.Row(a.f, b.f)), value.List(value.List(a.v, b.v)), a.e)
		}
	}
	// In one List, whose values are of one form.
	pair := layout.Row(number, layout.Fixed(1))
	right, great, long := value.List(one, zeros(1)), value.List(value.Number(256), zeros(1)), value.List(one, zeros(2))
	f := layout.List(1, 0, 99, 1, pair)
	sized(t, "all right", f, value.List(right, right), 5)
	fits(t, "great, long", f, value.List(right, great, long), api.ErrRange)
	fits(t, "long, great", f, value.List(right, long, great), api.ErrLength)
	fits(t, "none in a Row, great", f, value.List(right, api.Value{}, great), api.ErrForm)
	fits(t, "great, none in a Row", f, value.List(great, api.Value{}), api.ErrRange)
	fits(t, "both in one", f, value.List(right, value.List(value.Number(256), zeros(2)), api.Value{}), api.ErrRange)
}

// P5.1: a Row's number of values goes ahead of these; a List's sizes together come behind them.
func TestFitsBetweenValueAndValues(t *testing.T) {
	number, great := layout.Number(1), value.Number(256)
	row := layout.Row(number, number)
	fits(t, "too few, one too great", row, value.List(great), api.ErrForm)
	fits(t, "too many, one too great", row, value.List(great, great, great), api.ErrForm)
	fits(t, "as many, one too great", row, value.List(value.Number(1), great), api.ErrRange)
	fits(t, "as many, of wrong fields ahead", row, value.List(zeros(1), great), api.ErrForm)
	fits(t, "as many, of wrong fields behind", row, value.List(great, zeros(1)), api.ErrRange)

	for _, f := range []api.Form{layout.List(1, 0, 2, 1, number), layout.List(1, 9, 99, 1, number), layout.List(1, 0, 99, 50, number)} {
		fits(t, "a List's sizes", f, numbers(3), api.ErrLength)
		for i := range 3 {
			v := numbers(3)
			v.L[i] = great
			fits(t, "a List's sizes, one too great", f, v, api.ErrRange)
			v.L[i] = zeros(1)
			fits(t, "a List's sizes, one of wrong fields", f, v, api.ErrForm)
			v.N = 1
			fits(t, "a List's own fields", f, v, api.ErrForm)
		}
	}
	// What is wrong with a value's own fields goes ahead of what is wrong in it.
	fits(t, "a Row's own fields", row, api.Value{N: 1, L: []api.Value{great, great}}, api.ErrForm)
	fits(t, "a List's own fields", layout.List(1, 0, 2, 1, number), api.Value{B: []byte{1}, L: []api.Value{great, great}}, api.ErrForm)
	// An inner List's sizes go ahead of what comes behind that List.
	f := layout.Row(layout.List(1, 0, 1, 1, number), number)
	fits(t, "an inner List's sizes", f, value.List(numbers(2), great), api.ErrLength)
	fits(t, "an inner List's number", f, value.List(value.List(value.Number(1), great), zeros(1)), api.ErrRange)
}

// P5.1, P5.2, P5.4: all forms and values of all sorts, against the chapter's words.
func TestFitsOfAll(t *testing.T) {
	told := map[api.Errno]int{}
	all := values()
	for _, f := range forms() {
		least, most := layout.Least(f), layout.Most(f)
		for _, v := range all {
			e, n := value.Fits(f, v), value.Size(f, v)
			if want, size := askedFits(f, v), askedSize(f, v); e != want || n != size {
				t.Fatalf("%v of %v: %v, %d; want %v, %d", v, f, e, n, want, size)
			}
			if e == api.OK && (n < least || n > most) {
				t.Fatalf("%v of %v: size %d isn't from %d to %d", v, f, n, least, most)
			}
			told[e]++
		}
	}
	for _, e := range []api.Errno{api.OK, api.ErrArg, api.ErrRange, api.ErrLength, api.ErrDeep, api.ErrForm} {
		if told[e] < 100 {
			t.Errorf("%v was told %d times only", e, told[e])
		}
	}
}

// P1: a value that holds itself, or is deeper than any form, fits none.
func TestFitsOfEndlessValues(t *testing.T) {
	for _, n := range []int{1, 2, 32} {
		v := selfHeld(n)
		fits(t, "in a List", layout.List(3, 0, 1<<24-1, 1, layout.List(1, 0, 9, 1, layout.Number(1))), v, api.ErrForm)
		fits(t, "in a Row", layout.Row(slices.Repeat([]api.Form{layout.Row()}, n)...), v, api.ErrForm)
		fits(t, "in a Number", layout.Number(1), v, api.ErrForm)
	}
	v := api.Value{L: make([]api.Value, 3)}
	v.L[0], v.L[1], v.L[2] = value.List(), value.List(), v
	f := layout.Number(1)
	for range 7 {
		f = layout.List(3, 0, 1<<24-1, 1, f)
	}
	fits(t, "in seven Lists", f, v, api.ErrForm)
	fits(t, "a deep one", f, inValues(value.Number(1), 1000000), api.ErrForm)
}
