package value_test

import (
	"bytes"
	"math"
	"slices"
	"testing"

	"passepartout/api"
	"passepartout/layout"
	"passepartout/value"
)

// greatest are the greatest numbers, by how many bytes they have.
var greatest = map[int]uint64{1: 255, 2: 65535, 3: 16777215, 4: 4294967295, 8: math.MaxUint64}

// question is one that the chapter's sentence on Fits asks of a value, and the error of a yes.
type question struct {
	yes bool
	e   api.Errno
}

// questions are those of a value itself, in that sentence's order, but for the sizes in a List.
func questions(f api.Form, v api.Value) []question {
	of := func(some ...int) bool { return slices.Contains(some, f.Kind) }
	n := len(v.B)
	return []question{
		{!of(api.Number) && v.N != 0, api.ErrForm},
		{!of(api.Opaque, api.Rest, api.Fixed) && n != 0, api.ErrForm},
		{!of(api.List, api.Row) && len(v.L) != 0, api.ErrForm},
		{of(api.Number) && v.N > greatest[f.Size], api.ErrRange},
		{of(api.Opaque, api.Rest) && (n < f.Lo || n > f.Hi), api.ErrLength},
		{of(api.Fixed) && n != f.Lo, api.ErrLength},
		{of(api.Opaque) && n/f.Step*f.Step != n, api.ErrLength},
		{of(api.Row) && len(v.L) != len(f.Parts), api.ErrForm},
	}
}

// askedFits is what Fits is to answer, by the chapter's words.
func askedFits(f api.Form, v api.Value) api.Errno {
	if e := layout.Check(f); e != api.OK {
		return e
	}
	for _, q := range questions(f, v) {
		if q.yes {
			return q.e
		}
	}
	for i := range v.L {
		if e := askedFits(f.Parts[i%len(f.Parts)], v.L[i]); e != api.OK {
			return e
		}
	}
	if f.Kind == api.List {
		n := len(written(f, v)) - f.Size
		if n < f.Lo || n > f.Hi || n/f.Step*f.Step != n {
			return api.ErrLength
		}
	}
	return api.OK
}

// askedSize is what Size is to answer.
func askedSize(f api.Form, v api.Value) int {
	if askedFits(f, v) != api.OK {
		return 0
	}
	return len(written(f, v))
}

// written are the bytes of a value whose values fit. What the numbers in them are plays no part here, only how many bytes they have.
func written(f api.Form, v api.Value) []byte {
	var out []byte
	switch f.Kind {
	case api.Number:
		return make([]byte, f.Size)
	case api.Opaque:
		return append(make([]byte, f.Size), v.B...)
	case api.Rest, api.Fixed:
		return v.B
	case api.List:
		out = make([]byte, f.Size)
	}
	for i := range v.L {
		out = append(out, written(f.Parts[i%len(f.Parts)], v.L[i])...)
	}
	return out
}

// equal asks whether two values that don't hold themselves are equal.
func equal(a, b api.Value) bool {
	return a.N == b.N && bytes.Equal(a.B, b.B) && slices.EqualFunc(a.L, b.L, equal)
}

// equalForms asks whether two forms are equal in every field.
func equalForms(a, b api.Form) bool {
	return a.Kind == b.Kind && a.Size == b.Size && a.Lo == b.Lo && a.Hi == b.Hi && a.Step == b.Step && slices.EqualFunc(a.Parts, b.Parts, equalForms)
}

// askedCount is what Count is to answer of a value that doesn't hold itself.
func askedCount(v api.Value) int {
	n := 1
	for _, in := range v.L {
		n += askedCount(in)
	}
	return n
}

// spoilt is what lies behind a list's length in the memory of roomy values, and spoiltByte behind bytes.
var spoilt = api.Value{N: 77, B: []byte{77}}

const spoiltByte = 0xa5

// roomy is an equal value that shares no memory, and has room behind each list. Its empty lists aren't nil.
func roomy(v api.Value) api.Value {
	b := append(slices.Clone(v.B), spoiltByte, spoiltByte)
	l := make([]api.Value, len(v.L), len(v.L)+2)
	for i := range l {
		l[i] = roomy(v.L[i])
	}
	l = append(l, spoilt, spoilt)
	return api.Value{N: v.N, B: b[:len(v.B)], L: l[:len(v.L)]}
}

// untouched asks whether all that lies behind the lists of a roomy value is as it was.
func untouched(v api.Value) bool {
	b, l := v.B[:len(v.B)+2], v.L[:len(v.L)+2]
	return b[len(v.B)] == spoiltByte && b[len(v.B)+1] == spoiltByte &&
		equal(l[len(v.L)], spoilt) && equal(l[len(v.L)+1], spoilt) &&
		!slices.ContainsFunc(v.L, func(in api.Value) bool { return !untouched(in) })
}

// zeros is a value of so many bytes.
func zeros(n int) api.Value {
	return api.Value{B: make([]byte, n)}
}

// numbers is a value of so many numbers, all 0.
func numbers(n int) api.Value {
	return api.Value{L: make([]api.Value, n)}
}

// inValues is a value in so many others, one within the other.
func inValues(v api.Value, n int) api.Value {
	for range n {
		v = api.Value{L: []api.Value{v}}
	}
	return v
}

// selfHeld is a value whose list is itself, so many times.
func selfHeld(n int) api.Value {
	v := api.Value{L: make([]api.Value, n)}
	for i := range v.L {
		v.L[i] = v
	}
	return v
}

// shared is a value of so many levels, each of which has the one below it twice.
func shared(ground api.Value, levels int) api.Value {
	for range levels {
		ground = value.List(ground, ground)
	}
	return ground
}

// opaque is an Opaque with a Step.
func opaque(size, lo, hi, step int) api.Form {
	return api.Form{Kind: api.Opaque, Size: size, Lo: lo, Hi: hi, Step: step}
}

// inRows is a form in so many Rows, one within the other.
func inRows(f api.Form, n int) api.Form {
	for range n {
		f = layout.Row(f)
	}
	return f
}

// wrongForm is a form that Check refuses, and how.
type wrongForm struct {
	f api.Form
	e api.Errno
}

// wrongForms are such, of each of Check's errors.
func wrongForms() []wrongForm {
	number := layout.Number(1)
	return []wrongForm{
		{inRows(number, 8), api.ErrDeep},
		{api.Form{Kind: 6}, api.ErrArg}, {api.Form{Kind: -1}, api.ErrArg}, {api.Form{Kind: math.MinInt}, api.ErrArg},
		{layout.Number(0), api.ErrRange}, {layout.Number(5), api.ErrRange}, {layout.Number(math.MinInt), api.ErrRange}, {layout.Number(math.MaxInt), api.ErrRange},
		{layout.Opaque(0, 0, 9), api.ErrRange}, {layout.Opaque(4, 0, 9), api.ErrRange}, {layout.List(-1, 0, 9, 1, number), api.ErrRange},
		{layout.Opaque(1, -1, 9), api.ErrLength}, {layout.Opaque(1, 2, 1), api.ErrLength}, {layout.Opaque(1, 0, 256), api.ErrLength},
		{opaque(1, 0, 9, 0), api.ErrLength}, {opaque(1, 0, 9, -1), api.ErrLength}, {layout.List(1, 0, 9, 0, number), api.ErrLength}, {layout.List(1, 0, 9, 65537, number), api.ErrLength},
		{layout.Rest(-1, 9), api.ErrLength}, {layout.Rest(2, 1), api.ErrLength}, {layout.Rest(0, 1<<24), api.ErrLength},
		{layout.Fixed(-1), api.ErrLength}, {layout.Fixed(1 << 24), api.ErrLength},
		{api.Form{Kind: api.List, Size: 1, Hi: 9, Step: 1}, api.ErrForm},
		{api.Form{Kind: api.List, Size: 1, Hi: 9, Step: 1, Parts: []api.Form{number, number}}, api.ErrForm},
		{layout.Row(slices.Repeat([]api.Form{number}, 33)...), api.ErrForm},
		{layout.List(1, 0, 9, 1, layout.Rest(1, 2)), api.ErrForm}, {layout.List(1, 0, 9, 1, layout.Fixed(0)), api.ErrForm},
		{layout.Row(layout.Rest(0, 9), number), api.ErrForm},
		{layout.Row(number, layout.Number(7)), api.ErrRange}, {layout.Row(number, layout.Row(layout.Fixed(-1))), api.ErrLength},
		{layout.List(1, 0, 9, 1, api.Form{Kind: 9}), api.ErrArg},
	}
}

// grounds are values of all sorts that hold at most one level of others.
func grounds() []api.Value {
	return []api.Value{
		{}, {B: []byte{}, L: []api.Value{}}, {N: 1}, {N: 255}, {N: 256}, {N: 65536}, {N: math.MaxUint64},
		{B: []byte{0}}, {B: []byte{1, 2}}, {B: []byte{1, 2, 3}}, {B: []byte{1, 2, 3, 4}}, zeros(10),
		numbers(1), numbers(2), numbers(3), numbers(4),
		{L: []api.Value{{N: 256}}}, {L: []api.Value{{N: 1}, {N: 65536}}}, {L: []api.Value{{N: 1}, {B: []byte{1, 2}}}}, {L: []api.Value{{N: 7}, {B: []byte{1, 2, 3}}}},
		{N: 1, B: []byte{1, 2}}, {N: 1, L: []api.Value{{}}}, {B: []byte{1, 2}, L: []api.Value{{}}}, {N: 1, B: []byte{1, 2}, L: []api.Value{{}, {}}},
		{L: []api.Value{{N: 1, B: []byte{1}}, {}}}, {L: []api.Value{{}, {N: 1, L: []api.Value{{}}}}},
	}
}

// values are grounds, and such in others.
func values() []api.Value {
	all := grounds()
	for _, a := range grounds() {
		all = append(all, value.List(a), value.List(value.List(a), value.Number(3)), value.List(value.List(a), value.List(a)))
		for _, b := range grounds() {
			all = append(all, value.List(a, b), value.List(a, b, value.Bytes(9)))
		}
	}
	return all
}

// forms are right and wrong ones of all sorts.
func forms() []api.Form {
	one, two := layout.Number(1), layout.Number(2)
	pair := layout.Row(one, layout.Opaque(1, 2, 3))
	all := []api.Form{
		one, two, layout.Number(3), layout.Number(4), layout.Number(8),
		layout.Opaque(1, 0, 255), layout.Opaque(2, 2, 3), opaque(3, 0, 9, 2), opaque(1, 1, 4, 3), opaque(1, 0, 4, 65536),
		layout.Rest(0, 9), layout.Rest(2, 3), {Kind: api.Rest, Lo: 1, Hi: 2, Size: 3, Step: 2}, layout.Fixed(0), layout.Fixed(2), {Kind: api.Fixed, Lo: 3, Hi: 1, Step: 2},
		layout.List(1, 0, 255, 1, one), layout.List(2, 2, 4, 2, one), layout.List(1, 0, 4, 3, two), layout.List(3, 1, 9, 1, layout.Opaque(1, 0, 9)), layout.List(1, 3, 9, 1, pair),
		layout.List(1, 0, 99, 1, layout.List(1, 0, 9, 2, one)), layout.List(1, 5, 99, 5, layout.List(2, 2, 9, 1, one)),
		layout.Row(), layout.Row(one), layout.Row(one, two), pair, layout.Row(one, layout.Rest(0, 3)), layout.Row(layout.Fixed(2), layout.Fixed(1), layout.Rest(1, 1)),
		layout.Row(layout.List(1, 0, 9, 1, one), one), layout.Row(layout.Row(one), layout.Row(two)), layout.Row(layout.Row(), layout.Row()), layout.Row(layout.Row(layout.Row(), one), one),
	}
	for _, w := range wrongForms() {
		all = append(all, w.f)
	}
	return all
}

// fits asks what Fits answers, and that Size is 0 beside an error.
func fits(t *testing.T, what string, f api.Form, v api.Value, want api.Errno) {
	t.Helper()
	if e := value.Fits(f, v); e != want {
		t.Errorf("%s: Fits: %v; want %v", what, e, want)
	}
	if n := value.Size(f, v); want != api.OK && n != 0 {
		t.Errorf("%s: Size: %d; want 0", what, n)
	}
}

// sized asks for a value that fits, and has that size.
func sized(t *testing.T, what string, f api.Form, v api.Value, want int) {
	t.Helper()
	fits(t, what, f, v, api.OK)
	if n := value.Size(f, v); n != want {
		t.Errorf("%s: Size: %d; want %d", what, n, want)
	}
}
