package value_test

import (
	"bytes"
	"math"
	"slices"
	"sync"
	"testing"

	"passepartout/api"
	"passepartout/layout"
	"passepartout/value"
)

// isValue asks for a value by all its fields.
func isValue(t *testing.T, what string, v, want api.Value) {
	t.Helper()
	if !equal(v, want) {
		t.Errorf("%s: %v; want %v", what, v, want)
	}
}

// P5.3: each call fills its own field, and no other.
func TestValuesMade(t *testing.T) {
	for _, x := range []uint64{0, 1, 255, 256, 1 << 32, 1 << 63, math.MaxUint64} {
		isValue(t, "Number", value.Number(x), api.Value{N: x})
	}
	isValue(t, "Bytes", value.Bytes(), api.Value{})
	isValue(t, "Bytes", value.Bytes(0), api.Value{B: []byte{0}})
	isValue(t, "Bytes", value.Bytes(3, 255, 0), api.Value{B: []byte{3, 255, 0}})
	isValue(t, "Bytes of a list", value.Bytes([]byte{1, 2, 3}...), api.Value{B: []byte{1, 2, 3}})
	isValue(t, "Bytes of an empty list", value.Bytes([]byte{}...), api.Value{})
	many := bytes.Repeat([]byte{1, 2, 3}, 100000)
	isValue(t, "many Bytes", value.Bytes(many...), api.Value{B: many})
	isValue(t, "List", value.List(), api.Value{})
	isValue(t, "List of an empty value", value.List(api.Value{}), api.Value{L: []api.Value{{}}})
	isValue(t, "List of an empty list", value.List([]api.Value{}...), api.Value{})
	isValue(t, "List", value.List(value.Number(1), value.Bytes(2), value.List(value.Number(3))), api.Value{L: []api.Value{{N: 1}, {B: []byte{2}}, {L: []api.Value{{N: 3}}}}})
	isValue(t, "List of all sorts", value.List(values()...), api.Value{L: values()})
}

// Rule 4: what was handed in and what was made of it are apart, but for the values in a value, which are shared.
func TestValuesMadeAreApart(t *testing.T) {
	b := []byte{1, 2, 3}
	v := value.Bytes(b...)
	b[0] = 9
	isValue(t, "bytes changed by who handed them in", v, api.Value{B: []byte{1, 2, 3}})
	v.B[1] = 8
	if !bytes.Equal(b, []byte{9, 2, 3}) {
		t.Errorf("bytes that were handed in: %v", b)
	}
	l := []api.Value{value.Number(1), value.Bytes(5), value.Number(2)}
	v = value.List(l...)
	l[0] = value.Number(9)
	isValue(t, "a list changed by who handed it in", v, value.List(value.Number(1), value.Bytes(5), value.Number(2)))
	v.L[2] = value.Number(8)
	isValue(t, "a list that was handed in", l[2], value.Number(2))
	v.L[1].B[0] = 7
	isValue(t, "a value in a value is shared", l[1], value.Bytes(7))
}

// Rule 4: what lies behind the length of a list that is handed in isn't handed out, nor written by who gets the value.
func TestValuesLeaveTheRoomBehind(t *testing.T) {
	b := []byte{1, 2, spoiltByte}
	v := value.Bytes(b[:2]...)
	v.B = append(v.B, 9)
	if b[2] != spoiltByte || slices.Contains(v.B[:cap(v.B)], spoiltByte) {
		t.Error("Bytes hands out what lies behind its list")
	}
	l := []api.Value{value.Number(1), value.Number(2), spoilt}
	v = value.List(l[:2]...)
	v.L = append(v.L, value.Number(9))
	if !equal(l[2], spoilt) || slices.ContainsFunc(v.L[:cap(v.L)], func(in api.Value) bool { return equal(in, spoilt) }) {
		t.Error("List hands out what lies behind its list")
	}
}

// P2: two values that were made apart have nothing to do with one another.
func TestValuesMadeTwice(t *testing.T) {
	b, l := []byte{1, 2}, []api.Value{value.Number(1)}
	v, w := value.Bytes(b...), value.Bytes(b...)
	v.B[0] = 9
	isValue(t, "Bytes", w, value.Bytes(1, 2))
	v, w = value.List(l...), value.List(l...)
	v.L[0].N = 9
	isValue(t, "List", w, value.List(value.Number(1)))
}

// copyForm is an equal form that shares no memory.
func copyForm(f api.Form) api.Form {
	f.Parts = slices.Clone(f.Parts)
	for i := range f.Parts {
		f.Parts[i] = copyForm(f.Parts[i])
	}
	return f
}

// Rule 4: no call changes what it was handed, nor what lies behind it, and what lies there plays no part.
func TestCallsChangeNothing(t *testing.T) {
	all := values()
	for _, f := range forms() {
		kept := copyForm(f)
		for _, v := range all {
			w := roomy(v)
			if value.Fits(f, w) != value.Fits(f, v) || value.Size(f, w) != value.Size(f, v) {
				t.Fatalf("%v of %v: other memory, another answer", v, f)
			}
			if !equal(v, w) || !untouched(w) {
				t.Fatalf("%v of %v was changed", v, f)
			}
		}
		if !equalForms(f, kept) {
			t.Fatalf("%v was changed", kept)
		}
	}
	for _, v := range all {
		w, x := roomy(v), roomy(v)
		value.Same(w, x)
		value.Count(w)
		list := value.List(w, x)
		value.Bytes(w.B...)
		value.List(w.L...)
		if !equal(v, w) || !equal(v, x) || !untouched(w) || !untouched(x) || !equal(list, value.List(v, v)) {
			t.Fatalf("%v was changed", v)
		}
	}
}

// Rule 6: many goroutines may call at a time, also of one value.
func TestManyAtATime(t *testing.T) {
	f := layout.List(2, 0, 9999, 1, layout.Row(layout.Number(1), layout.Opaque(1, 0, 9)))
	v := api.Value{L: slices.Repeat([]api.Value{value.List(value.Number(1), value.Bytes(2, 3))}, 100)}
	var all sync.WaitGroup
	for range 8 {
		all.Go(func() {
			for range 100 {
				if e, n := value.Fits(f, v), value.Size(f, v); e != api.OK || n != 402 || !value.Same(v, v) || value.Count(v) != 301 {
					t.Errorf("%v, %d", e, n)
					return
				}
			}
		})
	}
	all.Wait()
}
