package write_test

import (
	"bytes"
	"math"
	"slices"
	"testing"

	"passepartout/api"
	"passepartout/layout"
	"passepartout/value"
	"passepartout/write"
)

// greatest are the greatest numbers, by how many bytes they have.
var greatest = map[int]uint64{1: 255, 2: 65535, 3: 16777215, 4: 4294967295, 8: math.MaxUint64}

// digits are a number's bytes, the highest first.
func digits(x uint64, size int) []byte {
	b := make([]byte, size)
	for i := range b {
		b[size-1-i] = byte(x)
		x /= 256
	}
	return b
}

// modelled are the bytes of a value that fits, by the chapter's words.
func modelled(f api.Form, v api.Value) []byte {
	var in []byte
	for i := range v.L {
		in = slices.Concat(in, modelled(f.Parts[i%len(f.Parts)], v.L[i]))
	}
	switch f.Kind {
	case api.Number:
		return digits(v.N, f.Size)
	case api.Opaque:
		return slices.Concat(digits(uint64(len(v.B)), f.Size), v.B)
	case api.List:
		return slices.Concat(digits(uint64(len(in)), f.Size), in)
	case api.Row:
		return in
	}
	return v.B
}

// modelVaried is what Vary is to answer, and whether the path leads to a value.
func modelVaried(v api.Value, path []int, x api.Value) (api.Value, bool) {
	if len(path) == 0 {
		return x, true
	}
	out, led := api.Value{N: v.N, B: v.B}, false
	for i, in := range v.L {
		if i == path[0] {
			in, led = modelVaried(in, path[1:], x)
		}
		out.L = append(out.L, in)
	}
	return out, led
}

// equal asks whether two values that don't hold themselves are equal.
func equal(a, b api.Value) bool {
	return a.N == b.N && bytes.Equal(a.B, b.B) && slices.EqualFunc(a.L, b.L, equal)
}

// equalForms asks whether two forms are equal in every field.
func equalForms(a, b api.Form) bool {
	return a.Kind == b.Kind && a.Size == b.Size && a.Lo == b.Lo && a.Hi == b.Hi && a.Step == b.Step && slices.EqualFunc(a.Parts, b.Parts, equalForms)
}

// some are bytes, written as a row of numbers.
func some(b ...byte) []byte { return b }

// numbered are the bytes 1 2 3 and so on, so many of them.
func numbered(n int) []byte {
	b := make([]byte, n)
	for i := range b {
		b[i] = byte(i + 1)
	}
	return b
}

// numbers is a value of these numbers.
func numbers(l ...byte) api.Value {
	v := api.Value{}
	for _, x := range l {
		v.L = append(v.L, api.Value{N: uint64(x)})
	}
	return v
}

// opaque is an Opaque with a Step.
func opaque(size, lo, hi, step int) api.Form {
	return api.Form{Kind: api.Opaque, Size: size, Lo: lo, Hi: hi, Step: step}
}

// inRows is a form in so many Rows, one within the other.
func inRows(f api.Form, n int) api.Form {
	for range n {
		f = layout.Row(f)
	}
	return f
}

// inValues is a value in so many others, one within the other.
func inValues(v api.Value, n int) api.Value {
	for range n {
		v = api.Value{L: []api.Value{v}}
	}
	return v
}

// selfHeld is a value whose list is itself, so many times.
func selfHeld(n int) api.Value {
	v := api.Value{L: make([]api.Value, n)}
	for i := range v.L {
		v.L[i] = v
	}
	return v
}

// rightForms are such of each Kind, in Rows and in Lists.
func rightForms() []api.Form {
	one, two := layout.Number(1), layout.Number(2)
	short := layout.Opaque(1, 0, 2)
	pair := layout.Row(one, layout.Opaque(1, 1, 3))
	list := layout.List(1, 0, 4, 1, one)
	return []api.Form{
		one, two, layout.Number(3), layout.Number(4), layout.Number(8),
		layout.Opaque(1, 0, 255), layout.Opaque(1, 1, 2), layout.Opaque(2, 0, 3), layout.Opaque(3, 1, 1<<24-1), opaque(1, 0, 4, 2), opaque(1, 1, 3, 3), opaque(2, 2, 1024, 2),
		list, layout.List(1, 2, 3, 1, one), layout.List(1, 0, 4, 2, one), layout.List(2, 1, 4, 1, two), layout.List(3, 0, 255, 1, layout.Number(3)), layout.List(1, 2, 4, 2, short), layout.List(1, 0, 255, 1, layout.Fixed(2)),
		layout.List(1, 0, 9, 1, pair), layout.List(1, 0, 9, 3, layout.Row(one, short, layout.Row())), layout.List(1, 0, 9, 1, layout.Row(layout.Fixed(0), layout.Row(), list)),
		layout.List(1, 0, 9, 1, list), layout.List(1, 1, 9, 1, layout.List(1, 1, 2, 1, short)), layout.List(2, 0, 9, 1, layout.List(1, 0, 9, 1, layout.List(1, 0, 9, 1, one))),
		layout.Row(), layout.Row(layout.Row(), layout.Fixed(0), layout.Row(layout.Row())), layout.Row(one), layout.Row(one, two), pair, layout.Row(list, one), layout.Row(list, list), layout.Row(short, layout.List(1, 1, 4, 1, pair), one),
		layout.Row(one, layout.Row(one, layout.Row(one)), one), inRows(list, 6),
		layout.Rest(0, 0), layout.Rest(0, 2), layout.Rest(2, 3), layout.Rest(1, 1<<24-1), layout.Row(layout.Rest(0, 1)), layout.Row(one, layout.Rest(1, 2)), layout.Row(list, layout.Row(layout.Fixed(1), layout.Rest(0, 1))), layout.Row(short, layout.Rest(0, 0)),
		layout.Fixed(0), layout.Fixed(1), layout.Fixed(3), layout.Row(layout.Fixed(2), layout.Fixed(0), layout.Fixed(1)), layout.Row(layout.Fixed(1), short, layout.Fixed(1)),

		// Fields that aren't the Kind's play no part.
		{Kind: api.Number, Size: 2, Lo: 5, Hi: -1, Step: 7, Parts: []api.Form{{Kind: 9}}},
		{Kind: api.Opaque, Size: 1, Hi: 3, Step: 1, Parts: []api.Form{{Kind: 9}, one}},
		{Kind: api.Row, Size: 9, Lo: 7, Hi: -1, Step: 5, Parts: []api.Form{one, short}},
		{Kind: api.Rest, Size: 7, Lo: 1, Hi: 2, Step: 2, Parts: []api.Form{{Kind: 9}}},
		{Kind: api.Fixed, Size: 7, Lo: 2, Hi: 1, Step: 3, Parts: []api.Form{{Kind: 9}}},
	}
}

// wrongForm is a form that Check refuses, and how.
type wrongForm struct {
	f api.Form
	e api.Errno
}

// wrongForms are such, of each of Check's errors.
func wrongForms() []wrongForm {
	one := layout.Number(1)
	return []wrongForm{
		{inRows(one, 8), api.ErrDeep}, {inRows(layout.Number(7), 8), api.ErrDeep},
		{api.Form{Kind: 6}, api.ErrArg}, {api.Form{Kind: -1}, api.ErrArg}, {api.Form{Kind: math.MinInt}, api.ErrArg}, {api.Form{Kind: math.MaxInt}, api.ErrArg},
		{layout.Number(0), api.ErrRange}, {layout.Number(5), api.ErrRange}, {layout.Number(9), api.ErrRange}, {layout.Number(math.MinInt), api.ErrRange}, {layout.Number(math.MaxInt), api.ErrRange},
		{layout.Opaque(0, 0, 9), api.ErrRange}, {layout.Opaque(4, 0, 9), api.ErrRange}, {layout.List(-1, 0, 9, 1, one), api.ErrRange},
		{layout.Opaque(1, -1, 9), api.ErrLength}, {layout.Opaque(1, 2, 1), api.ErrLength}, {layout.Opaque(1, 0, 256), api.ErrLength},
		{opaque(1, 0, 9, 0), api.ErrLength}, {opaque(1, 0, 9, -1), api.ErrLength}, {layout.List(1, 0, 9, 0, one), api.ErrLength}, {layout.List(1, 0, 9, 65537, one), api.ErrLength},
		{layout.Rest(-1, 9), api.ErrLength}, {layout.Rest(2, 1), api.ErrLength}, {layout.Rest(0, 1<<24), api.ErrLength},
		{layout.Fixed(-1), api.ErrLength}, {layout.Fixed(1 << 24), api.ErrLength}, {layout.Fixed(math.MinInt), api.ErrLength}, {layout.Fixed(math.MaxInt), api.ErrLength},
		{api.Form{Kind: api.List, Size: 1, Hi: 9, Step: 1}, api.ErrForm},
		{api.Form{Kind: api.List, Size: 1, Hi: 9, Step: 1, Parts: []api.Form{one, one}}, api.ErrForm},
		{layout.Row(slices.Repeat([]api.Form{one}, 33)...), api.ErrForm},
		{layout.List(1, 0, 9, 1, layout.Rest(1, 2)), api.ErrForm}, {layout.List(1, 0, 9, 1, layout.Fixed(0)), api.ErrForm}, {layout.List(1, 0, 9, 1, layout.Row()), api.ErrForm},
		{layout.Row(layout.Rest(0, 9), one), api.ErrForm},
		{layout.Row(one, layout.Number(7)), api.ErrRange}, {layout.Row(one, layout.Row(layout.Fixed(-1))), api.ErrLength}, {layout.List(1, 0, 9, 1, api.Form{Kind: 9}), api.ErrArg},
	}
}

// grounds are values of all sorts that hold at most one level of others.
func grounds() []api.Value {
	return []api.Value{
		{}, {B: []byte{}, L: []api.Value{}}, {N: 1}, {N: 255}, {N: 256}, {N: 65536}, {N: math.MaxUint64},
		{B: []byte{0}}, {B: []byte{1, 2}}, {B: []byte{1, 2, 3}}, {B: []byte{1, 2, 3, 4}},
		numbers(9), numbers(1, 2), numbers(0, 255, 7), numbers(4, 3, 2, 1),
		{L: []api.Value{{N: 256}}}, {L: []api.Value{{N: 1}, {N: 65536}}}, {L: []api.Value{{N: 1}, {B: []byte{1, 2}}}}, {L: []api.Value{{N: 7}, {B: []byte{1, 2, 3}}}},
		{N: 1, B: []byte{1, 2}}, {N: 1, L: []api.Value{{}}}, {B: []byte{1, 2}, L: []api.Value{{}}}, {N: 1, B: []byte{1, 2}, L: []api.Value{{N: 5}, {}}},
		{L: []api.Value{{N: 1, B: []byte{1}}, {}}}, {L: []api.Value{{}, {N: 1, L: []api.Value{{}}}}},
	}
}

// values are grounds, and such in others.
func values() []api.Value {
	all := grounds()
	for _, a := range grounds() {
		all = append(all, value.List(a), value.List(value.List(a), value.Number(3)), value.List(value.List(a), value.List(a)))
		for _, b := range grounds() {
			all = append(all, value.List(a, b), value.List(a, b, value.Bytes(9)))
		}
	}
	return all
}

// chance tells numbers below the one that it is handed, always the same ones.
func chance(seed uint32) func(below int) int {
	return func(below int) int {
		seed = seed*1664525 + 1013904223
		return int(uint64(seed>>8) * uint64(below) >> 24)
	}
}

// anyBytes are so many bytes.
func anyBytes(n int, next func(int) int) []byte {
	b := make([]byte, n)
	for i := range b {
		b[i] = byte(next(256))
	}
	return b
}

// anyValue is some value that looks like one of a form; most of them fit.
func anyValue(f api.Form, next func(int) int) (v api.Value) {
	switch f.Kind {
	case api.Number:
		for _, x := range anyBytes(f.Size, next) {
			v.N = v.N<<8 + uint64(x)
		}
	case api.Fixed:
		v.B = anyBytes(f.Lo, next)
	case api.Opaque, api.Rest:
		v.B = anyBytes(f.Lo+next(min(f.Hi-f.Lo, 20)+1), next)
	case api.Row:
		for _, p := range f.Parts {
			v.L = append(v.L, anyValue(p, next))
		}
	case api.List:
		for range next(5) {
			v.L = append(v.L, anyValue(f.Parts[0], next))
		}
	}
	return v
}

// formValue is a form, and a value.
type formValue struct {
	f api.Form
	v api.Value
}

// fitting are forms of all sorts with values that fit.
func fitting(t *testing.T, seed uint32) (all []formValue) {
	t.Helper()
	next := chance(seed)
	for _, f := range rightForms() {
		const enough, tries = 20, 2000
		found := 0
		for n := 0; n < tries && found < enough; n++ {
			if v := anyValue(f, next); value.Fits(f, v) == api.OK {
				all = append(all, formValue{f, v})
				found++
			}
		}
		if found < enough {
			t.Fatalf("%v: %d values only that fit", f, found)
		}
	}
	return all
}

// spoilt is what lies behind a list's length in the memory of roomy values, and spoiltByte behind bytes.
var spoilt = api.Value{N: 77, B: []byte{77}}

const spoiltByte = 0xa5

// roomyBytes are equal bytes of other memory, with room behind them.
func roomyBytes(b []byte) []byte {
	return append(slices.Clone(b), spoiltByte, spoiltByte, spoiltByte)[:len(b)]
}

// untouchedBytes asks whether what lies behind roomy bytes is as it was.
func untouchedBytes(b []byte) bool {
	return bytes.Equal(b[len(b):len(b)+3], some(spoiltByte, spoiltByte, spoiltByte))
}

// roomy is an equal value that shares no memory, and has room behind each list. Its empty lists aren't nil.
func roomy(v api.Value) api.Value {
	l := make([]api.Value, len(v.L), len(v.L)+2)
	for i := range l {
		l[i] = roomy(v.L[i])
	}
	l = append(l, spoilt, spoilt)
	return api.Value{N: v.N, B: roomyBytes(v.B), L: l[:len(v.L)]}
}

// untouched asks whether all that lies behind the lists of a roomy value is as it was.
func untouched(v api.Value) bool {
	l := v.L[:len(v.L)+2]
	return untouchedBytes(v.B) && equal(l[len(v.L)], spoilt) && equal(l[len(v.L)+1], spoilt) &&
		!slices.ContainsFunc(v.L, func(in api.Value) bool { return !untouched(in) })
}

// roomyForm is an equal form that shares no memory, with a form behind each list's length that may not be seen.
func roomyForm(f api.Form) api.Form {
	parts := make([]api.Form, len(f.Parts), len(f.Parts)+1)
	for i := range parts {
		parts[i] = roomyForm(f.Parts[i])
	}
	f.Parts = append(parts, api.Form{Kind: 77})[:len(parts)]
	return f
}

// untouchedForm asks whether what lies behind the lists of a roomy form is as it was.
func untouchedForm(f api.Form) bool {
	return equalForms(f.Parts[:len(f.Parts)+1][len(f.Parts)], api.Form{Kind: 77}) &&
		!slices.ContainsFunc(f.Parts, func(p api.Form) bool { return !untouchedForm(p) })
}

// spoilBytes writes over bytes, and over what lies behind them.
func spoilBytes(b []byte) {
	b = b[:cap(b)]
	for i := range b {
		b[i] = spoiltByte
	}
}

// spoil writes over all bytes and values of a value, and over what lies behind them.
func spoil(v *api.Value) {
	spoilBytes(v.B)
	for i := range v.L {
		spoil(&v.L[i])
	}
	l := v.L[:cap(v.L)]
	for i := range l {
		l[i] = api.Value{N: 99, B: []byte{99}}
	}
}

// heads are bytes onto which others are appended: none, with and without memory, and some, with and without room behind them.
func heads() [][]byte {
	return [][]byte{nil, {}, make([]byte, 0, 100), {7}, {1, 1}, numbered(300), roomyBytes(nil), roomyBytes(some(8, 9)), append(make([]byte, 0, 5000), 4, 5, 6)}
}

// shown are bytes as they are told of a fault: the first ones, where they are many.
func shown(b []byte) []byte { return b[:min(len(b), 60)] }

// writes asks that Write answers these bytes, as many as the value's size, and Append the same behind others.
func writes(t *testing.T, what string, f api.Form, v api.Value, want []byte) {
	t.Helper()
	if b, e := write.Write(f, v); e != api.OK || !bytes.Equal(b, want) {
		t.Errorf("%s: Write: %v (%d bytes), %v; want %v (%d bytes)", what, shown(b), len(b), e, shown(want), len(want))
	}
	if n := value.Size(f, v); n != len(want) {
		t.Errorf("%s: Size %d; want %d", what, n, len(want))
	}
	for _, head := range heads() {
		kept := slices.Clone(head)
		if b, e := write.Append(head, f, v); e != api.OK || !bytes.Equal(b, slices.Concat(kept, want)) {
			t.Errorf("%s: Append to %v: %v (%d bytes), %v; want %v (%d bytes) behind them", what, shown(kept), shown(b), len(b), e, shown(want), len(want))
		}
	}
}

// fails asks that Write and Append answer that error, no bytes beside it, and that layer 5 says the same.
func fails(t *testing.T, what string, f api.Form, v api.Value, want api.Errno) {
	t.Helper()
	if e := value.Fits(f, v); e != want {
		t.Errorf("%s: Fits: %v; want %v", what, e, want)
	}
	if b, e := write.Write(f, v); e != want || len(b) != 0 {
		t.Errorf("%s: Write: %v (%d bytes), %v; want no bytes, %v", what, shown(b), len(b), e, want)
	}
	for _, head := range heads() {
		kept := slices.Clone(head)
		if b, e := write.Append(head, f, v); e != want || len(b) != 0 || !bytes.Equal(head, kept) {
			t.Errorf("%s: Append to %v: %v (%d bytes), %v; want no bytes, %v", what, shown(kept), shown(b), len(b), e, want)
		}
	}
}
