package read_test

import (
	"bytes"
	"math"
	"runtime"
	"slices"
	"testing"

	"passepartout/api"
	"passepartout/layout"
	"passepartout/read"
	"passepartout/value"
)

// held holds all calls of a form and bytes against the chapter's words.
func held(t *testing.T, f api.Form, b []byte) {
	t.Helper()
	whole, begun := asked(f, b, math.MaxInt, false)
	first, _ := asked(f, b, math.MaxInt, true)
	for _, base := range []int{0, 1000} {
		if a := got(read.Read(f, b, base)); !a.is(whole, base) {
			t.Fatalf("Read(%v, %v, %d): %v; want %v", f, b, base, a, whole)
		}
		if a := got(read.Prefix(f, b, base)); !a.is(first, base) {
			t.Fatalf("Prefix(%v, %v, %d): %v; want %v", f, b, base, a, first)
		}
	}
	for _, most := range []int{0, 1, begun / 2, begun - 1, begun, begun + 1} {
		if most < 0 {
			continue
		}
		want, count := asked(f, b, most, false)
		x := newTally(t, most)
		if a := got(read.Counted(x, f, b, 7)); !a.is(want, 7) || x.Count() != count {
			t.Fatalf("Counted(most %d, %v, %v, 7): %v, Count %d; want %v, Count %d", most, f, b, a, x.Count(), want, count)
		}
	}
	if layout.Check(f) == api.OK {
		bounded(t, f, b)
	}
	if first.e == api.OK {
		faithful(t, f, b[:first.at], first.v)
	}
}

// faithful asks that a value that was read fits, is as long as its bytes, and has just these bytes.
func faithful(t *testing.T, f api.Form, b []byte, v api.Value) {
	t.Helper()
	if e, n := value.Fits(f, v), value.Size(f, v); e != api.OK || n != len(b) {
		t.Fatalf("%v of %v: Fits %v, Size %d", v, b, e, n)
	}
	if w := written(f, v); !bytes.Equal(w, b) {
		t.Fatalf("%v of %v is written %v", v, b, w)
	}
}

// P6.1 to P6.4: all short rows of small bytes, by forms of all sorts.
func TestAllShortRows(t *testing.T) {
	const longest, below = 5, 5
	forms := rightForms()
	for _, w := range wrongForms() {
		forms = append(forms, w.f)
	}
	for _, f := range forms {
		var grow func(b []byte)
		grow = func(b []byte) {
			held(t, f, b)
			if len(b) == longest {
				return
			}
			for x := range byte(below) {
				grow(append(slices.Clip(b), x))
			}
		}
		grow(nil)
	}
}

// P6.1: each value that fits is read from its bytes, and these with some cut off, one more, or one changed are what the chapter says.
func TestWhatIsWritten(t *testing.T) {
	next := chance(1)
	for _, f := range rightForms() {
		found := 0
		for range 60 {
			v := anyValue(f, next)
			if value.Fits(f, v) != api.OK {
				continue
			}
			found++
			b := written(f, v)
			reads(t, f, b, v)
			held(t, f, b)
			held(t, f, append(slices.Clip(b), byte(next(4))))
			for range 8 {
				held(t, f, b[:next(len(b)+1)])
				held(t, f, changed(b, next))
			}
		}
		if found == 0 && f.Step != 65536 { // no length is a multiple of that one
			t.Errorf("%v: no value that fits was found", f)
		}
	}
}

// chance tells numbers below the one that it is handed, always the same ones.
func chance(seed uint32) func(below int) int {
	return func(below int) int {
		seed = seed*1664525 + 1013904223
		return int(uint64(seed>>8) * uint64(below) >> 24)
	}
}

// changed are the bytes, but for one.
func changed(b []byte, next func(int) int) []byte {
	b = slices.Clone(b)
	if len(b) > 0 {
		b[next(len(b))] = byte(next(12))
	}
	return b
}

// anyValue is some value that looks like one of a form; most of them fit.
func anyValue(f api.Form, next func(int) int) (v api.Value) {
	switch f.Kind {
	case api.Number:
		v.N = bigEndian(anyBytes(f.Size, next))
	case api.Fixed:
		v.B = anyBytes(f.Lo, next)
	case api.Opaque, api.Rest:
		v.B = anyBytes(f.Lo+next(min(f.Hi-f.Lo, 20)+1), next)
	case api.Row:
		for _, p := range f.Parts {
			v.L = append(v.L, anyValue(p, next))
		}
	case api.List:
		for range next(5) {
			v.L = append(v.L, anyValue(f.Parts[0], next))
		}
	}
	return v
}

// anyBytes are so many bytes.
func anyBytes(n int, next func(int) int) []byte {
	b := make([]byte, n)
	for i := range b {
		b[i] = byte(next(256))
	}
	return b
}

// P6.4: a form as messages have them, with all bytes of it cut and changed.
func TestALongForm(t *testing.T) {
	item := layout.Row(layout.Number(2), layout.Opaque(2, 0, 65535))
	f := layout.Row(layout.Number(2), layout.Fixed(4), layout.Opaque(1, 0, 4), layout.List(2, 2, 65534, 2, layout.Number(2)), layout.Opaque(1, 1, 9), layout.List(2, 8, 65535, 1, item), layout.Rest(0, 3))
	b := some(3, 3, 1, 2, 3, 4, 2, 9, 8, 0, 4, 19, 1, 19, 2, 1, 0, 0, 14, 0, 43, 0, 3, 2, 3, 4, 0, 10, 0, 3, 5, 6, 7, 0xf1, 0xf2)
	held(t, f, b)
	v := got(read.Read(f, b, 0))
	if v.e != api.OK || len(v.v.L) != 7 || len(v.v.L[3].L) != 2 || len(v.v.L[5].L) != 2 {
		t.Fatal(v)
	}
	for i := range b {
		held(t, f, b[:i])
		for _, x := range []byte{0, 1, 2, 3, 4, 5, 7, 8, 13, 14, 15, 254, 255} {
			other := slices.Clone(b)
			other[i] = x
			held(t, f, other)
		}
	}
}

// spoiltByte is what lies behind the bytes in their memory.
const spoiltByte = 0xa5

// roomyForm is an equal form that shares no memory, with a form behind each list's length that may not be seen.
func roomyForm(f api.Form) api.Form {
	parts := make([]api.Form, len(f.Parts), len(f.Parts)+1)
	for i := range parts {
		parts[i] = roomyForm(f.Parts[i])
	}
	f.Parts = append(parts, api.Form{Kind: 77})[:len(parts)]
	return f
}

// untouched asks whether what lies behind the lists of a roomy form is as it was.
func untouched(f api.Form) bool {
	return equalForms(f.Parts[:len(f.Parts)+1][len(f.Parts)], api.Form{Kind: 77}) &&
		!slices.ContainsFunc(f.Parts, func(p api.Form) bool { return !untouched(p) })
}

// formBytes are a form, and bytes that are read by it.
type formBytes struct {
	f api.Form
	b []byte
}

// cases are such, with right bytes and with others.
func cases() (all []formBytes) {
	next := chance(7)
	for _, f := range rightForms() {
		for range 12 {
			b := written(f, anyValue(f, next))
			for _, b := range [][]byte{b, append(slices.Clip(b), 1), b[:len(b)/2]} {
				all = append(all, formBytes{f, b})
			}
		}
	}
	return all
}

// Rule 4: no call changes what it is handed, nor reads or writes what lies behind it.
func TestNothingIsChanged(t *testing.T) {
	for _, c := range cases() {
		f := roomyForm(c.f)
		room := append(slices.Clone(c.b), spoiltByte, spoiltByte, spoiltByte)
		b := room[:len(c.b)]
		x := newTally(t, 1000)
		calls := []answer{got(read.Read(f, b, 9)), got(read.Prefix(f, b, 9)), got(read.Counted(x, f, b, 9))}
		if !equalForms(f, roomyForm(c.f)) || !untouched(f) {
			t.Errorf("the form %v is %v", c.f, f)
		}
		if !bytes.Equal(room, append(slices.Clone(c.b), spoiltByte, spoiltByte, spoiltByte)) {
			t.Errorf("the bytes %v are %v", c.b, room)
		}
		plain := []answer{got(read.Read(c.f, c.b, 9)), got(read.Prefix(c.f, c.b, 9)), got(read.Counted(nil, c.f, c.b, 9))}
		for i, a := range calls {
			if a.e != plain[i].e || a.at != plain[i].at || !equal(a.v, plain[i].v) {
				t.Errorf("%v of %v: %v; without room behind: %v", f, b, a, plain[i])
			}
		}
	}
}

// spoil writes over all bytes and values of a value, and over what lies behind them.
func spoil(v *api.Value) {
	b, l := v.B[:cap(v.B)], v.L[:cap(v.L)]
	for i := range b {
		b[i] = spoiltByte
	}
	for i := range v.L {
		spoil(&v.L[i])
	}
	for i := range l {
		l[i] = api.Value{N: 77, B: []byte{77}}
	}
}

// Rule 4: what is answered shares nothing with what was handed in, nor with another answer.
func TestNothingIsShared(t *testing.T) {
	for _, c := range cases() {
		f, b := roomyForm(c.f), slices.Clone(c.b)
		x := newTally(t, 1000)
		calls := []answer{got(read.Read(f, b, 9)), got(read.Prefix(f, b, 9)), got(read.Counted(x, f, b, 9)), got(read.Read(f, b, 9))}
		plain := []answer{got(read.Read(c.f, c.b, 9)), got(read.Prefix(c.f, c.b, 9)), got(read.Counted(nil, c.f, c.b, 9)), got(read.Read(c.f, c.b, 9))}
		for i := range calls {
			spoil(&calls[i].v)
			if !bytes.Equal(b, c.b) || !equalForms(f, c.f) || !untouched(f) {
				t.Fatalf("%v of %v: a changed answer changes what was handed in", c.f, c.b)
			}
			for j := i + 1; j < len(calls); j++ {
				if !equal(calls[j].v, plain[j].v) {
					t.Fatalf("%v of %v: a changed answer changes another", c.f, c.b)
				}
			}
		}

		// And the other way: bytes and forms that are changed behind the call change no answer.
		a := got(read.Read(f, b, 9))
		for i := range b {
			b[i] = spoiltByte
		}
		for i := range f.Parts {
			f.Parts[i] = api.Form{Kind: 77}
		}
		if !equal(a.v, plain[0].v) {
			t.Fatalf("%v of %v: changed bytes change an answer", c.f, c.b)
		}
	}
}

// Rule 4: no two lists of one answer share memory.
func TestListsOfOneAnswerAreApart(t *testing.T) {
	f := layout.Row(layout.Opaque(1, 0, 9), layout.Fixed(2), layout.List(1, 0, 99, 1, layout.Row(layout.Opaque(1, 0, 9), layout.List(1, 0, 9, 1, layout.Number(1)))), layout.Rest(0, 9))
	b := some(2, 1, 2, 3, 4, 10, 1, 5, 2, 6, 7, 2, 8, 9, 1, 10, 11, 12)
	all := func(v *api.Value) []*api.Value {
		return []*api.Value{&v.L[0], &v.L[1], &v.L[2], &v.L[2].L[0].L[0], &v.L[2].L[0].L[1], &v.L[2].L[1].L[0], &v.L[2].L[1].L[1], &v.L[3]}
	}
	plain := got(read.Read(f, b, 0))
	if plain.e != api.OK {
		t.Fatal(plain)
	}
	for i := range all(&plain.v) {
		v, _, _ := read.Read(f, b, 0)
		one := all(&v)[i]
		one.B = append(one.B, spoiltByte)
		one.L = append(one.L, api.Value{N: 77})
		one.B, one.L = all(&plain.v)[i].B, all(&plain.v)[i].L
		if !equal(v, plain.v) {
			t.Errorf("list %d: what is appended to it is seen elsewhere: %v", i, v)
		}
	}
}

// P6: what is held is bounded by what came, not by what a length or a form says.
func TestLittleIsHeldOfLittle(t *testing.T) {
	const most, rounds = 1<<24 - 1, 50
	for _, c := range []formBytes{
		{layout.Opaque(3, 0, most), some(255, 255, 255, 1)},
		{layout.List(3, 0, most, 1, layout.Number(1)), some(255, 255, 255, 1)},
		{layout.Fixed(most), some(1, 2, 3)},
		{layout.Rest(0, most), some(1, 2, 3)},
		{layout.Rest(most, most), some(1, 2, 3)},
	} {
		var ahead, behind runtime.MemStats
		runtime.ReadMemStats(&ahead)
		for range rounds {
			read.Read(c.f, c.b, 0)
		}
		runtime.ReadMemStats(&behind)
		if held := (behind.TotalAlloc - ahead.TotalAlloc) / rounds; held > 1<<16 {
			t.Errorf("%v of %v: %d bytes were held", c.f, c.b, held)
		}
	}
}
