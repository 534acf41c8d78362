package read_test

import (
	"bytes"
	"math"
	"slices"
	"testing"

	"passepartout/api"
	"passepartout/layout"
	"passepartout/read"
	"passepartout/tally"
	"passepartout/value"
)

// answer is what a call of the package answers.
type answer struct {
	v  api.Value
	at int
	e  api.Errno
}

// got is an answer of what a call answered.
func got(v api.Value, at int, e api.Errno) answer { return answer{v, at, e} }

// stop is how the model leaves off, in the midst of forms.
type stop struct {
	at int
	e  api.Errno
}

// model reads by the chapter's words, on indexes of b, and counts the forms that it begins.
type model struct {
	b     []byte
	begun int
	most  int // of forms that may be begun
}

// need asks that so many bytes stand between two places, and is the place behind them.
func (m *model) need(n, at, end int) int {
	if end-at < n {
		panic(stop{end, api.ErrShort})
	}
	return at + n
}

// bigEndian is the number that bytes are.
func bigEndian(b []byte) uint64 {
	var x uint64
	for _, d := range b {
		x = x*256 + uint64(d)
	}
	return x
}

// length is the place behind a form's length, and the place behind the bytes of that length.
func (m *model) length(f api.Form, at, end int) (int, int) {
	behind := m.need(f.Size, at, end)
	n := int(bigEndian(m.b[at:behind]))
	if n < f.Lo || n > f.Hi || n/f.Step*f.Step != n {
		panic(stop{at, api.ErrLength})
	}
	return behind, m.need(n, behind, end)
}

// form is the value of a form from a place on, and the place behind it.
func (m *model) form(f api.Form, at, end int) (v api.Value, behind int) {
	if m.begun == m.most {
		panic(stop{at, api.ErrCap})
	}
	m.begun++
	switch f.Kind {
	case api.Number:
		behind = m.need(f.Size, at, end)
		v.N = bigEndian(m.b[at:behind])
	case api.Opaque:
		at, behind = m.length(f, at, end)
		v.B = m.b[at:behind]
	case api.List:
		at, behind = m.length(f, at, end)
		for at < behind {
			var in api.Value
			in, at = m.form(f.Parts[0], at, behind)
			v.L = append(v.L, in)
		}
	case api.Row:
		behind = at
		for _, p := range f.Parts {
			var in api.Value
			in, behind = m.form(p, behind, end)
			v.L = append(v.L, in)
		}
	case api.Rest:
		behind = m.need(f.Lo, at, end)
		if end-at > f.Hi {
			panic(stop{at + f.Hi, api.ErrTrail})
		}
		v.B, behind = m.b[at:end], end
	case api.Fixed:
		behind = m.need(f.Lo, at, end)
		v.B = m.b[at:behind]
	}
	return v, behind
}

// asked is what a call is to answer at base 0, and how many forms it is to begin; trail tells whether bytes may stand behind.
func asked(f api.Form, b []byte, most int, trail bool) (a answer, begun int) {
	if e := layout.Check(f); e != api.OK {
		return answer{e: e}, 0
	}
	m := &model{b: b, most: most}
	defer func() {
		if s, ok := recover().(stop); ok {
			a, begun = answer{at: s.at, e: s.e}, m.begun
		}
	}()
	v, behind := m.form(f, 0, len(b))
	if behind < len(b) && !trail {
		panic(stop{behind, api.ErrTrail})
	}
	return answer{v: v, at: behind}, m.begun
}

// equal asks whether two values are equal.
func equal(a, b api.Value) bool {
	return a.N == b.N && bytes.Equal(a.B, b.B) && slices.EqualFunc(a.L, b.L, equal)
}

// equalForms asks whether two forms are equal in every field.
func equalForms(a, b api.Form) bool {
	return a.Kind == b.Kind && a.Size == b.Size && a.Lo == b.Lo && a.Hi == b.Hi && a.Step == b.Step && slices.EqualFunc(a.Parts, b.Parts, equalForms)
}

// is asks whether an answer is the one that is asked for at base 0, moved to a base. Beside an error no value may stand.
func (a answer) is(want answer, base int) bool {
	return a.e == want.e && a.at == base+want.at && equal(a.v, want.v)
}

// written are the bytes of a value that fits.
func written(f api.Form, v api.Value) []byte {
	var in []byte
	switch f.Kind {
	case api.Number:
		return digits(v.N, f.Size)
	case api.Opaque:
		return slices.Concat(digits(uint64(len(v.B)), f.Size), v.B)
	case api.Rest, api.Fixed:
		return v.B
	}
	for i := range v.L {
		in = append(in, written(f.Parts[i%len(f.Parts)], v.L[i])...)
	}
	if f.Kind == api.List {
		return slices.Concat(digits(uint64(len(in)), f.Size), in)
	}
	return in
}

// digits are a number's bytes, the highest first.
func digits(x uint64, size int) []byte {
	b := make([]byte, size)
	for i := range b {
		b[size-1-i] = byte(x)
		x /= 256
	}
	return b
}

// formCount is how many forms there are in one, with itself.
func formCount(f api.Form) int {
	n := 1
	if f.Kind == api.List || f.Kind == api.Row {
		for _, p := range f.Parts {
			n += formCount(p)
		}
	}
	return n
}

// opaque is an Opaque with a Step.
func opaque(size, lo, hi, step int) api.Form {
	return api.Form{Kind: api.Opaque, Size: size, Lo: lo, Hi: hi, Step: step}
}

// inRows is a form in so many Rows, one within the other.
func inRows(f api.Form, n int) api.Form {
	for range n {
		f = layout.Row(f)
	}
	return f
}

// numbered are the bytes 1 2 3 and so on, so many of them.
func numbered(n int) []byte {
	b := make([]byte, n)
	for i := range b {
		b[i] = byte(i + 1)
	}
	return b
}

// some are bytes, written as a row of numbers.
func some(b ...byte) []byte { return b }

// bases are some that may be, the least and the greatest among them.
var bases = []int{0, 1, 100, 1<<31 - 1, 1 << 40}

// rightForms are such of each Kind, in Rows and in Lists.
func rightForms() []api.Form {
	one, two := layout.Number(1), layout.Number(2)
	short := layout.Opaque(1, 0, 2)
	pair := layout.Row(one, layout.Opaque(1, 1, 3))
	list := layout.List(1, 0, 4, 1, one)
	return []api.Form{
		one, two, layout.Number(3), layout.Number(4), layout.Number(8),
		layout.Opaque(1, 0, 255), layout.Opaque(1, 1, 2), layout.Opaque(2, 0, 3), layout.Opaque(3, 1, 1<<24-1), opaque(1, 0, 4, 2), opaque(1, 1, 3, 3), opaque(1, 1, 3, 65536), opaque(2, 2, 1024, 2),
		list, layout.List(1, 2, 3, 1, one), layout.List(1, 0, 4, 2, one), layout.List(2, 1, 4, 1, two), layout.List(1, 0, 255, 1, layout.Number(3)), layout.List(1, 2, 4, 2, short), layout.List(1, 0, 255, 1, layout.Fixed(2)),
		layout.List(1, 0, 9, 1, pair), layout.List(1, 0, 9, 3, layout.Row(one, short, layout.Row())), layout.List(1, 0, 9, 1, layout.Row(layout.Fixed(0), layout.Row(), list)),
		layout.List(1, 0, 9, 1, list), layout.List(1, 1, 9, 1, layout.List(1, 1, 2, 1, short)), layout.List(2, 0, 9, 1, layout.List(1, 0, 9, 1, layout.List(1, 0, 9, 1, one))),
		layout.Row(), layout.Row(layout.Row(), layout.Fixed(0), layout.Row(layout.Row())), layout.Row(one), layout.Row(one, two), pair, layout.Row(list, one), layout.Row(list, list), layout.Row(short, layout.List(1, 1, 4, 1, pair), one),
		layout.Row(one, layout.Row(one, layout.Row(one)), one), inRows(list, 6),
		layout.Rest(0, 0), layout.Rest(0, 2), layout.Rest(2, 3), layout.Rest(1, 1<<24-1), layout.Row(layout.Rest(0, 1)), layout.Row(one, layout.Rest(1, 2)), layout.Row(list, layout.Row(layout.Fixed(1), layout.Rest(0, 1))), layout.Row(short, layout.Rest(0, 0)),
		layout.Fixed(0), layout.Fixed(1), layout.Fixed(3), layout.Row(layout.Fixed(2), layout.Fixed(0), layout.Fixed(1)), layout.Row(layout.Fixed(1), short, layout.Fixed(1)),

		// Fields that aren't the Kind's play no part.
		{Kind: api.Number, Size: 2, Lo: 5, Hi: -1, Step: 7, Parts: []api.Form{{Kind: 9}}},
		{Kind: api.Opaque, Size: 1, Hi: 3, Step: 1, Parts: []api.Form{{Kind: 9}, one}},
		{Kind: api.Row, Size: 9, Lo: 7, Hi: -1, Step: 5, Parts: []api.Form{one, short}},
		{Kind: api.Rest, Size: 7, Lo: 1, Hi: 2, Step: 2, Parts: []api.Form{{Kind: 9}}},
		{Kind: api.Fixed, Size: 7, Lo: 2, Hi: 1, Step: 3, Parts: []api.Form{{Kind: 9}}},
	}
}

// wrongForm is a form that Check refuses, and how.
type wrongForm struct {
	f api.Form
	e api.Errno
}

// wrongForms are such, of each of Check's errors.
func wrongForms() []wrongForm {
	one := layout.Number(1)
	return []wrongForm{
		{inRows(one, 8), api.ErrDeep}, {inRows(layout.Number(7), 8), api.ErrDeep},
		{api.Form{Kind: 6}, api.ErrArg}, {api.Form{Kind: -1}, api.ErrArg}, {api.Form{Kind: math.MinInt}, api.ErrArg}, {api.Form{Kind: math.MaxInt}, api.ErrArg},
		{layout.Number(0), api.ErrRange}, {layout.Number(5), api.ErrRange}, {layout.Number(9), api.ErrRange}, {layout.Number(math.MinInt), api.ErrRange}, {layout.Number(math.MaxInt), api.ErrRange},
		{layout.Opaque(0, 0, 9), api.ErrRange}, {layout.Opaque(4, 0, 9), api.ErrRange}, {layout.List(-1, 0, 9, 1, one), api.ErrRange},
		{layout.Opaque(1, -1, 9), api.ErrLength}, {layout.Opaque(1, 2, 1), api.ErrLength}, {layout.Opaque(1, 0, 256), api.ErrLength},
		{opaque(1, 0, 9, 0), api.ErrLength}, {opaque(1, 0, 9, -1), api.ErrLength}, {layout.List(1, 0, 9, 0, one), api.ErrLength}, {layout.List(1, 0, 9, 65537, one), api.ErrLength},
		{layout.Rest(-1, 9), api.ErrLength}, {layout.Rest(2, 1), api.ErrLength}, {layout.Rest(0, 1<<24), api.ErrLength},
		{layout.Fixed(-1), api.ErrLength}, {layout.Fixed(1 << 24), api.ErrLength}, {layout.Fixed(math.MinInt), api.ErrLength}, {layout.Fixed(math.MaxInt), api.ErrLength},
		{api.Form{Kind: api.List, Size: 1, Hi: 9, Step: 1}, api.ErrForm},
		{api.Form{Kind: api.List, Size: 1, Hi: 9, Step: 1, Parts: []api.Form{one, one}}, api.ErrForm},
		{layout.Row(slices.Repeat([]api.Form{one}, 33)...), api.ErrForm},
		{layout.List(1, 0, 9, 1, layout.Rest(1, 2)), api.ErrForm}, {layout.List(1, 0, 9, 1, layout.Fixed(0)), api.ErrForm}, {layout.List(1, 0, 9, 1, layout.Row()), api.ErrForm},
		{layout.Row(layout.Rest(0, 9), one), api.ErrForm},
		{layout.Row(one, layout.Number(7)), api.ErrRange}, {layout.Row(one, layout.Row(layout.Fixed(-1))), api.ErrLength}, {layout.List(1, 0, 9, 1, api.Form{Kind: 9}), api.ErrArg},
	}
}

// newTally is a new tally that may count so many.
func newTally(t *testing.T, most int) *tally.Tally {
	t.Helper()
	x, e := tally.New(most)
	if e != api.OK {
		t.Fatalf("tally.New(%d): %v", most, e)
	}
	return x
}

// reads asks that Read answers a value and the end, at every base; and that the value fits, and is as long as the bytes.
func reads(t *testing.T, f api.Form, b []byte, want api.Value) {
	t.Helper()
	for _, base := range bases {
		a := got(read.Read(f, b, base))
		if !a.is(answer{v: want, at: len(b)}, base) {
			t.Errorf("Read(%v, %v, %d): %v; want %v, %d, OK", f, b, base, a, want, base+len(b))
		}
		if e, n := value.Fits(f, a.v), value.Size(f, a.v); e != api.OK || n != len(b) {
			t.Errorf("Read(%v, %v, %d): %v: Fits %v, Size %d", f, b, base, a.v, e, n)
		}
	}
}

// fails asks that Read answers an error at a place, told from the first byte on, at every base.
func fails(t *testing.T, f api.Form, b []byte, at int, e api.Errno) {
	t.Helper()
	for _, base := range bases {
		if a := got(read.Read(f, b, base)); !a.is(answer{at: at, e: e}, base) {
			t.Errorf("Read(%v, %v, %d): %v; want no value, %d, %v", f, b, base, a, base+at, e)
		}
	}
}
