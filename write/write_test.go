package write_test

import (
	"bytes"
	"math"
	"runtime/debug"
	"slices"
	"sync"
	"testing"

	"passepartout/api"
	"passepartout/layout"
	"passepartout/value"
	"passepartout/write"
)

func TestExampleOfTheChapter(t *testing.T) {
	f := layout.Row(layout.Number(2), layout.List(1, 0, 9, 1, layout.Number(1)))
	writes(t, "258 and 5 6", f, value.List(value.Number(258), numbers(5, 6)), some(1, 2, 2, 5, 6))
}

// P7.1: a Number of each Size, the highest byte first, at 0, at the greatest and at one that is too great.
func TestWriteNumber(t *testing.T) {
	for size, most := range greatest {
		f := layout.Number(size)
		writes(t, "0", f, value.Number(0), make([]byte, size))
		writes(t, "1", f, value.Number(1), append(make([]byte, size-1), 1))
		writes(t, "the greatest", f, value.Number(most), bytes.Repeat(some(255), size))
		writes(t, "one less", f, value.Number(most-1), append(bytes.Repeat(some(255), size-1), 254))
		writes(t, "1 2 3 ..", f, value.Number(0x0102030405060708>>(8*(8-size))), numbered(size))
		for shift := range 64 {
			if x := uint64(1) << shift; x <= most {
				writes(t, "a power of 2", f, value.Number(x), digits(x, size))
			} else {
				fails(t, "a power of 2 that is too great", f, value.Number(x), api.ErrRange)
			}
		}
		if most < math.MaxUint64 {
			fails(t, "one more", f, value.Number(most+1), api.ErrRange)
			fails(t, "the greatest of all", f, value.Number(math.MaxUint64), api.ErrRange)
		}
	}
}

// P7.1: an Opaque, a Rest and a Fixed of so many bytes as they may have, and of others.
func TestWriteBytes(t *testing.T) {
	for _, span := range [][2]int{{0, 0}, {0, 1}, {1, 1}, {2, 5}, {0, 255}, {254, 255}} {
		lo, hi := span[0], span[1]
		for _, n := range []int{0, 1, 2, lo - 1, lo, lo + 1, hi - 1, hi, hi + 1} {
			if n < 0 {
				continue
			}
			b := numbered(n)
			v := value.Bytes(b...)
			if n == lo {
				writes(t, "Fixed", layout.Fixed(lo), v, b)
			} else {
				fails(t, "Fixed", layout.Fixed(lo), v, api.ErrLength)
			}
			if n < lo || n > hi {
				fails(t, "Rest", layout.Rest(lo, hi), v, api.ErrLength)
			} else {
				writes(t, "Rest", layout.Rest(lo, hi), v, b)
			}
			for size := 1; size <= 3; size++ {
				if n < lo || n > hi {
					fails(t, "Opaque", layout.Opaque(size, lo, hi), v, api.ErrLength)
				} else {
					writes(t, "Opaque", layout.Opaque(size, lo, hi), v, slices.Concat(digits(uint64(n), size), b))
				}
			}
		}
	}
}

// P7.1: an Opaque whose bytes are and are not a multiple of Step; of a Rest and a Fixed a Step plays no part.
func TestWriteStepOfBytes(t *testing.T) {
	for _, step := range []int{1, 2, 3, 7, 65536} {
		for n := range 20 {
			b := numbered(n)
			v := value.Bytes(b...)
			if n%step == 0 {
				writes(t, "Opaque", opaque(2, 0, 99, step), v, slices.Concat(some(0, byte(n)), b))
			} else {
				fails(t, "Opaque", opaque(2, 0, 99, step), v, api.ErrLength)
			}
			writes(t, "Rest", api.Form{Kind: api.Rest, Hi: 99, Step: step}, v, b)
			writes(t, "Fixed", api.Form{Kind: api.Fixed, Lo: n, Step: step}, v, b)
		}
	}
}

// P7.1: a List of so many bytes as it may have, and of others.
func TestWriteSizesOfList(t *testing.T) {
	for _, c := range []struct{ lo, hi, step int }{{0, 0, 1}, {0, 3, 1}, {1, 1, 1}, {2, 5, 1}, {2, 8, 2}, {4, 11, 3}, {0, 9, 65536}} {
		for size := 1; size <= 3; size++ {
			for n := range 13 {
				f, v := layout.List(size, c.lo, c.hi, c.step, layout.Number(1)), numbers(numbered(n)...)
				if c.lo <= n && n <= c.hi && n%c.step == 0 {
					writes(t, "a List", f, v, slices.Concat(digits(uint64(n), size), numbered(n)))
				} else {
					fails(t, "a List", f, v, api.ErrLength)
				}
			}
		}
	}
	two := layout.List(1, 2, 4, 2, layout.Number(2))
	writes(t, "one of two bytes", two, numbers(9), some(2, 0, 9))
	writes(t, "two of two bytes", two, numbers(9, 8), some(4, 0, 9, 0, 8))
	fails(t, "none", two, numbers(), api.ErrLength)
	fails(t, "three of two bytes", two, numbers(9, 8, 7), api.ErrLength)
}

// P7.1: a Row's values, one behind the other, each by its own part.
func TestWriteRow(t *testing.T) {
	one, two := layout.Number(1), layout.Number(2)
	writes(t, "without parts", layout.Row(), value.List(), nil)
	writes(t, "without parts, the zero value", layout.Row(), api.Value{}, nil)
	writes(t, "parts without bytes", layout.Row(layout.Row(), layout.Fixed(0), layout.Rest(0, 0)), value.List(value.List(), value.Bytes(), value.Bytes()), nil)
	writes(t, "one part", layout.Row(two), numbers(5), some(0, 5))
	writes(t, "two parts", layout.Row(one, two), numbers(5, 6), some(5, 0, 6))
	writes(t, "the other way", layout.Row(two, one), numbers(5, 6), some(0, 5, 6))
	f := layout.Row(one, layout.Opaque(1, 0, 3), layout.Fixed(2), layout.List(1, 0, 9, 1, two), layout.Row(two, one), layout.Rest(0, 3))
	v := value.List(value.Number(1), value.Bytes(2, 3), value.Bytes(4, 5), numbers(6, 7), numbers(8, 9), value.Bytes(10, 11))
	writes(t, "each Kind", f, v, some(1, 2, 2, 3, 4, 5, 4, 0, 6, 0, 7, 0, 8, 9, 10, 11))

	all := slices.Repeat([]api.Form{one}, 32)
	writes(t, "as many parts as may be", layout.Row(all...), numbers(numbered(32)...), numbered(32))
	fails(t, "one value less", layout.Row(all...), numbers(numbered(31)...), api.ErrForm)
	fails(t, "one value more", layout.Row(all...), numbers(numbered(33)...), api.ErrForm)
	fails(t, "no value", layout.Row(one), value.List(), api.ErrForm)
	fails(t, "a value without a part", layout.Row(), value.List(value.List()), api.ErrForm)
}

// P7.1: Lists in Rows, Rows in Lists, Lists in Lists: a length is that of all bytes behind it, with the lengths in them.
func TestWriteOneInTheOther(t *testing.T) {
	one := layout.Number(1)
	short := layout.Opaque(1, 0, 3)
	pairs := layout.List(2, 0, 99, 1, layout.Row(one, short))
	two := value.List(value.List(value.Number(1), value.Bytes(5, 6)), value.List(value.Number(2), value.Bytes()))
	writes(t, "Rows in a List", pairs, two, some(0, 6, 1, 2, 5, 6, 2, 0))
	writes(t, "no Rows in a List", pairs, value.List(), some(0, 0))
	writes(t, "Lists in a Row", layout.Row(pairs, one, pairs), value.List(two, value.Number(9), value.List()), some(0, 6, 1, 2, 5, 6, 2, 0, 9, 0, 0))
	lists := layout.List(1, 0, 99, 1, layout.List(2, 0, 99, 1, one))
	writes(t, "Lists in a List", lists, value.List(numbers(7, 8), numbers(), numbers(9)), some(9, 0, 2, 7, 8, 0, 0, 0, 1, 9))
	writes(t, "no Lists in a List", lists, value.List(), some(0))
	writes(t, "Opaques in a List", layout.List(3, 0, 99, 1, short), value.List(value.Bytes(), value.Bytes(4), value.Bytes(5, 6, 7)), some(0, 0, 7, 0, 1, 4, 3, 5, 6, 7))
	writes(t, "Fixeds in a List", layout.List(1, 0, 99, 2, layout.Fixed(2)), value.List(value.Bytes(1, 2), value.Bytes(3, 4)), some(4, 1, 2, 3, 4))
	writes(t, "Rows in Rows in a List", layout.List(1, 0, 99, 1, layout.Row(layout.Row(one, one), layout.Row(), one)), value.List(value.List(numbers(1, 2), numbers(), value.Number(3)), value.List(numbers(4, 5), numbers(), value.Number(6))), some(6, 1, 2, 3, 4, 5, 6))
	writes(t, "Lists in Rows in a List", layout.List(1, 0, 99, 1, layout.Row(layout.List(1, 0, 9, 1, one), one)), value.List(value.List(numbers(1, 2), value.Number(3)), value.List(numbers(), value.Number(4))), some(6, 2, 1, 2, 3, 0, 4))
	writes(t, "a Rest behind Lists, in Rows", layout.Row(lists, layout.Row(one, layout.Row(layout.Rest(0, 9)))), value.List(value.List(numbers(7)), value.List(value.Number(1), value.List(value.Bytes(2, 3)))), some(3, 0, 1, 7, 1, 2, 3))
}

// P7.1: forms of the greatest depth are written.
func TestWriteDeepest(t *testing.T) {
	writes(t, "Rows", inRows(layout.Number(1), 7), inValues(value.Number(5), 7), some(5))
	f, want := layout.Number(1), some(5)
	for n := range 7 {
		f = layout.List(1, 0, 99, 1, f)
		want = slices.Concat(some(byte(n+1)), want)
		writes(t, "Lists", f, inValues(value.Number(5), n+1), want)
	}
}

// P7.1: all bytes of a length play a part, up to the greatest lengths that there are.
func TestWriteGreatLengths(t *testing.T) {
	for _, c := range []struct{ size, n int }{{1, 255}, {2, 256}, {2, 65535}, {3, 65535}, {3, 65536}, {3, 1<<24 - 1}} {
		v := api.Value{B: numbered(c.n)}
		want := slices.Concat(digits(uint64(c.n), c.size), v.B)
		writes(t, "an Opaque", layout.Opaque(c.size, 0, c.n), v, want)
		writes(t, "a List of one", layout.List(c.size, 0, c.n, 1, layout.Fixed(c.n)), value.List(v), want)
		writes(t, "a Rest", layout.Rest(0, c.n), v, v.B)
		writes(t, "a Fixed", layout.Fixed(c.n), v, v.B)
		more := api.Value{B: make([]byte, c.n+1)}
		for _, f := range []api.Form{layout.Opaque(c.size, 0, c.n), layout.Rest(0, c.n), layout.Fixed(c.n)} {
			fails(t, "one more", f, more, api.ErrLength)
		}
	}
	many, want := numbered(65535), some(255, 255)
	f := layout.List(2, 0, 65535, 1, layout.Number(1))
	writes(t, "a List of many", f, numbers(many...), append(want, many...))
	fails(t, "a List of one too many", f, numbers(append(many, 1)...), api.ErrLength)
}

// P7.1: a value may have more bytes than a builder takes.
func TestWriteMoreThanABuilder(t *testing.T) {
	if testing.Short() {
		t.Skip("it holds more than a gigabyte")
	}
	// What each part leaves behind is taken up again for the next one, or it would be gigabytes.
	defer debug.SetGCPercent(debug.SetGCPercent(5))
	const most, parts = 1<<24 - 1, 65
	part, in := layout.Fixed(most), api.Value{B: bytes.Repeat(some(1, 2, 3, 4, 5), most/5)}
	row := func(n int) (api.Form, api.Value) {
		return layout.Row(slices.Repeat([]api.Form{part}, n)...), api.Value{L: slices.Repeat([]api.Value{in}, n)}
	}
	full, fullIn := row(32)
	last, lastIn := row(parts - 2*32)
	f, v := layout.Row(full, full, last), value.List(fullIn, fullIn, lastIn)
	b, e := write.Append(some(9), f, v)
	if e != api.OK || len(b) != 1+parts*most || b[0] != 9 {
		t.Fatal(len(b), e)
	}
	for i := range parts {
		if !bytes.Equal(b[1+i*most:1+(i+1)*most], in.B) {
			t.Fatalf("part %d is another one", i)
		}
	}
}

// P7.1: layer 4's error of a form goes ahead of all that is wrong with a value.
func TestWriteOfWrongForms(t *testing.T) {
	for _, w := range wrongForms() {
		for _, v := range grounds() {
			fails(t, "a wrong form", w.f, v, w.e)
			if w.e != api.ErrDeep {
				fails(t, "a wrong part", layout.Row(layout.Number(1), w.f), v, w.e)
				fails(t, "a List's wrong part", layout.List(1, 0, 9, 1, w.f), v, w.e)
			}
		}
	}
}

// misfit is a form, a value that doesn't fit it, and why.
type misfit struct {
	f api.Form
	v api.Value
	e api.Errno
}

// misfits are such, of each error that Fits has of right forms, with several things wrong in some. Their forms may stand in a List.
func misfits() []misfit {
	one := layout.Number(1)
	list, row := layout.List(1, 2, 4, 2, one), layout.Row(one, layout.Opaque(1, 1, 2))
	great := value.Number(256)
	return []misfit{
		{one, great, api.ErrRange},
		{one, value.Bytes(1), api.ErrForm},
		{one, numbers(1), api.ErrForm},
		{one, api.Value{N: 256, B: some(1)}, api.ErrForm},
		{layout.Opaque(1, 1, 2), value.Bytes(), api.ErrLength},
		{layout.Opaque(1, 1, 2), value.Bytes(1, 2, 3), api.ErrLength},
		{opaque(1, 0, 9, 2), value.Bytes(1, 2, 3), api.ErrLength},
		{layout.Opaque(1, 1, 2), api.Value{N: 1}, api.ErrForm},
		{layout.Opaque(1, 1, 2), api.Value{N: 1, B: some(1, 2, 3)}, api.ErrForm},
		{layout.Fixed(2), value.Bytes(1), api.ErrLength},
		{layout.Fixed(2), value.Bytes(1, 2, 3), api.ErrLength},
		{layout.Fixed(2), api.Value{B: some(1), L: []api.Value{{}}}, api.ErrForm},
		{list, numbers(), api.ErrLength},
		{list, numbers(1, 2, 3), api.ErrLength},
		{list, numbers(1, 2, 3, 4, 5, 6), api.ErrLength},
		{list, value.List(value.Number(1), great), api.ErrRange},
		{list, value.List(great, great, value.Bytes(1)), api.ErrRange},
		{list, value.List(value.Number(1), value.Number(1), value.Bytes(1), great), api.ErrForm},
		{list, api.Value{B: some(1), L: []api.Value{great}}, api.ErrForm},
		{row, numbers(1), api.ErrForm},
		{row, value.List(great), api.ErrForm},
		{row, value.List(value.Number(1), value.Bytes(2), great), api.ErrForm},
		{row, value.List(great, value.Bytes()), api.ErrRange},
		{row, value.List(value.Number(1), value.Bytes()), api.ErrLength},
		{row, value.List(value.Bytes(1), value.Bytes()), api.ErrForm},
		{row, api.Value{N: 1, L: []api.Value{great, value.Bytes()}}, api.ErrForm},
	}
}

// P7.1: the error of a value that doesn't fit, wherever it stands; of several the first one's.
func TestWriteOfMisfits(t *testing.T) {
	one, right := layout.Number(1), value.Number(1)
	for _, a := range misfits() {
		fails(t, "alone", a.f, a.v, a.e)
		fails(t, "in a Row", layout.Row(one, a.f, one), value.List(right, a.v, right), a.e)
		fails(t, "in a List", layout.List(1, 0, 99, 1, a.f), value.List(a.v), a.e)
		fails(t, "in a List that is too short", layout.List(1, 98, 99, 1, a.f), value.List(a.v), a.e)
		fails(t, "in a List in a Row in a List", layout.List(1, 0, 99, 1, layout.Row(one, layout.List(1, 0, 99, 1, a.f))), value.List(value.List(right, value.List()), value.List(right, value.List(a.v))), a.e)
		for _, b := range misfits() {
			fails(t, "two in a Row", layout.Row(a.f, b.f), value.List(a.v, b.v), a.e)
			fails(t, "two in a List", layout.List(1, 0, 99, 1, layout.Row(a.f, b.f)), value.List(value.List(a.v, b.v)), a.e)
			fails(t, "a List, then another", layout.Row(layout.List(1, 0, 99, 1, a.f), b.f), value.List(value.List(a.v), b.v), a.e)
		}
	}
	fails(t, "a Rest", layout.Rest(2, 3), value.Bytes(1), api.ErrLength)
	fails(t, "a Rest of another field", layout.Rest(2, 3), api.Value{N: 1, B: some(1)}, api.ErrForm)
}

// P7.1: forms and values of all sorts, against layer 5 and the chapter's words.
func TestWriteOfAll(t *testing.T) {
	forms := rightForms()
	for _, w := range wrongForms() {
		forms = append(forms, w.f)
	}
	all := values()
	told := map[api.Errno]int{}
	for _, f := range forms {
		for _, v := range all {
			want, wrong := []byte(nil), value.Fits(f, v)
			if wrong == api.OK {
				want = modelled(f, v)
			}
			b, e := write.Write(f, v)
			if e != wrong || !bytes.Equal(b, want) || len(b) != value.Size(f, v) {
				t.Fatalf("Write(%v, %v): %v, %v; want %v, %v", f, v, b, e, want, wrong)
			}
			if wrong == api.OK {
				want = slices.Concat(some(3, 4), want)
			}
			if b, e := write.Append(some(3, 4), f, v); e != wrong || !bytes.Equal(b, want) {
				t.Fatalf("Append([3 4], %v, %v): %v, %v; want %v, %v", f, v, b, e, want, wrong)
			}
			told[e]++
		}
	}
	for _, e := range []api.Errno{api.OK, api.ErrArg, api.ErrRange, api.ErrLength, api.ErrDeep, api.ErrForm} {
		if told[e] < 100 {
			t.Errorf("%v was told %d times only", e, told[e])
		}
	}
}

// P1: forms and values that hold themselves are refused.
func TestWriteOfEndlessValues(t *testing.T) {
	self := api.Form{Kind: api.Row, Parts: make([]api.Form, 1)}
	self.Parts[0] = self
	lists := layout.Number(1)
	for range 7 {
		lists = layout.List(3, 0, 1<<24-1, 1, lists)
	}
	for i, c := range []misfit{
		{self, selfHeld(1), api.ErrDeep},
		{self, value.Number(1), api.ErrDeep},
		{lists, selfHeld(1), api.ErrForm},
		{lists, inValues(value.Number(1), 1000000), api.ErrForm},
		{layout.Row(layout.Row(), layout.Row()), selfHeld(2), api.ErrForm},
		{layout.Number(1), selfHeld(1), api.ErrForm},
	} {
		// What is wrong isn't told in full: it would have no end.
		if b, e := write.Write(c.f, c.v); e != c.e || len(b) != 0 {
			t.Errorf("Write of case %d: %v, %v", i, b, e)
		}
		if b, e := write.Append(some(1), c.f, c.v); e != c.e || len(b) != 0 {
			t.Errorf("Append of case %d: %v, %v", i, b, e)
		}
	}
}

// Rule 4: neither call changes what it was handed, nor what lies behind it, whether or not it is refused.
func TestWriteChangesNothing(t *testing.T) {
	all := fitting(t, 3)
	for _, m := range misfits() {
		all = append(all, formValue{m.f, m.v})
	}
	for _, w := range wrongForms() {
		all = append(all, formValue{w.f, numbers(1, 2)})
	}
	for _, c := range all {
		for _, head := range [][]byte{nil, {}, {7}, numbered(40)} {
			f, v, h := roomyForm(c.f), roomy(c.v), roomyBytes(head)
			plain, wrong := write.Append(head, c.f, c.v)
			b, e := write.Append(h, f, v)
			if e != wrong || !bytes.Equal(b, plain) {
				t.Fatalf("%v of %v: other memory, another answer: %v, %v; without room behind: %v, %v", c.v, c.f, b, e, plain, wrong)
			}
			write.Write(f, v)
			if !equalForms(f, c.f) || !untouchedForm(f) || !equal(v, c.v) || !untouched(v) || !bytes.Equal(h, head) || !untouchedBytes(h) {
				t.Fatalf("%v, %v or %v was changed", head, c.f, c.v)
			}
		}
	}
}

// Rule 4: the bytes that are answered share nothing with what was handed in, nor with another answer.
func TestWrittenBytesAreApart(t *testing.T) {
	for _, c := range fitting(t, 4) {
		want := modelled(c.f, c.v)
		for _, head := range [][]byte{nil, {}, {7}, numbered(40)} {
			f, v, h := roomyForm(c.f), roomy(c.v), roomyBytes(head)
			first, _ := write.Append(h, f, v)
			second, _ := write.Append(h, f, v)
			third, _ := write.Write(f, v)
			spoilBytes(first)
			if !equal(v, c.v) || !untouched(v) || !bytes.Equal(h, head) || !untouchedBytes(h) || !equalForms(f, c.f) {
				t.Fatalf("%v, %v or %v: changed by a changed answer", head, c.f, c.v)
			}
			if !bytes.Equal(second, slices.Concat(head, want)) || !bytes.Equal(third, want) {
				t.Fatalf("%v of %v: a changed answer changes another", c.v, c.f)
			}
			spoil(&v)
			spoilBytes(h)
			if !bytes.Equal(second, slices.Concat(head, want)) || !bytes.Equal(third, want) {
				t.Fatalf("%v of %v: what is changed behind the call changes its answer", c.v, c.f)
			}
		}
	}
}

// Rule 4: where nothing is to be written, b's bytes come back in other memory, too.
func TestAppendOfNothingIsApart(t *testing.T) {
	for _, f := range []api.Form{layout.Row(), layout.Fixed(0), layout.Rest(0, 0)} {
		h := roomyBytes(some(1, 2, 3))
		b, e := write.Append(h, f, api.Value{})
		if e != api.OK || !bytes.Equal(b, some(1, 2, 3)) {
			t.Fatalf("%v: %v, %v", f, b, e)
		}
		spoilBytes(b)
		if !bytes.Equal(h, some(1, 2, 3)) || !untouchedBytes(h) {
			t.Errorf("%v: the bytes that were handed in are %v", f, h)
		}
	}
}

// P7.1: what is appended one behind the other is what a Row writes.
func TestAppendInARow(t *testing.T) {
	next := chance(9)
	all := fitting(t, 5)
	for range 200 {
		var b, want []byte
		var parts []api.Form
		v := api.Value{}
		for range 6 {
			c := all[next(len(all))]
			if layout.Open(c.f) || layout.Check(layout.Row(c.f)) != api.OK {
				continue
			}
			parts, v.L = append(parts, c.f), append(v.L, c.v)
			want = slices.Concat(want, modelled(c.f, c.v))
			var e api.Errno
			if b, e = write.Append(b, c.f, c.v); e != api.OK || !bytes.Equal(b, want) {
				t.Fatalf("%v of %v: %v, %v; want %v", c.v, c.f, b, e, want)
			}
		}
		if whole, e := write.Write(layout.Row(parts...), v); e != api.OK || !bytes.Equal(whole, want) {
			t.Fatalf("%v of %v: %v, %v; want %v", v, parts, whole, e, want)
		}
	}
}

// Rule 6: many goroutines may call at a time, also of one value.
func TestManyAtATime(t *testing.T) {
	f := layout.List(2, 0, 9999, 1, layout.Row(layout.Number(1), layout.Opaque(1, 0, 9)))
	v := api.Value{L: slices.Repeat([]api.Value{value.List(value.Number(1), value.Bytes(2, 3))}, 100)}
	want := modelled(f, v)
	var all sync.WaitGroup
	for range 8 {
		all.Go(func() {
			for range 100 {
				b, e := write.Write(f, v)
				w, f := write.Vary(v, []int{50, 1}, value.Bytes(7))
				if e != api.OK || !bytes.Equal(b, want) || f != api.OK || !equal(w.L[50].L[1], value.Bytes(7)) {
					t.Error(e, f)
					return
				}
			}
		})
	}
	all.Wait()
}
