package value_test

import (
	"math"
	"slices"
	"testing"

	"passepartout/api"
	"passepartout/layout"
	"passepartout/value"
)

// same asks what Same answers, of both orders.
func same(t *testing.T, what string, a, b api.Value, want bool) {
	t.Helper()
	if value.Same(a, b) != want || value.Same(b, a) != want {
		t.Errorf("%s: Same: %v, %v; want %v", what, value.Same(a, b), value.Same(b, a), want)
	}
}

// P5.2: values that differ in one field only differ.
func TestSameByFields(t *testing.T) {
	one := value.Number(1)
	full := api.Value{N: 7, B: []byte{1, 2, 3}, L: []api.Value{one, {B: []byte{4}}, {L: []api.Value{one}}}}
	same(t, "no field", full, full, true)
	same(t, "no field, other memory", full, roomy(full), true)
	for _, x := range []uint64{0, 1, 6, 8, 7 + 1<<8, 7 + 1<<32, 7 + 1<<63, math.MaxUint64} {
		v := full
		v.N = x
		same(t, "N", full, v, false)
	}
	for _, b := range [][]byte{nil, {}, {1}, {1, 2}, {0, 2, 3}, {1, 0, 3}, {1, 2, 4}, {2, 1, 3}, {3, 2, 1}, {1, 2, 3, 0}, {0, 1, 2, 3}, {1, 2, 3, 4}} {
		v := full
		v.B = b
		same(t, "B", full, v, false)
	}
	for _, l := range [][]api.Value{nil, {}, full.L[:1], full.L[:2], full.L[1:], append(slices.Clone(full.L), api.Value{}), {full.L[1], full.L[0], full.L[2]}, {full.L[0], full.L[2], full.L[1]}, {one, one, one}} {
		v := full
		v.L = l
		same(t, "L", full, v, false)
	}
}

// P5.2: an empty list may be nil or not; one without elements isn't one of empty values.
func TestSameOfEmpty(t *testing.T) {
	empty := []api.Value{{}, {B: []byte{}}, {L: []api.Value{}}, {B: []byte{}, L: []api.Value{}}, value.Number(0), value.Bytes(), value.List()}
	for _, a := range empty {
		for _, b := range empty {
			same(t, "empty", a, b, true)
			same(t, "of empty", value.List(a, b), value.List(b, a), true)
			same(t, "of one, of two", value.List(a), value.List(a, b), false)
		}
		for _, b := range []api.Value{value.Number(1), zeros(1), numbers(1), value.Bytes(0), value.List(value.List())} {
			same(t, "empty and not", a, b, false)
		}
	}
	same(t, "0 and a byte 0", value.Number(0), value.Bytes(0), false)
	same(t, "1 and a byte 1", value.Number(1), value.Bytes(1), false)
	same(t, "a number and a list of it", value.Number(1), value.List(value.Number(1)), false)
	same(t, "other bounds of lists", value.List(value.List(value.Number(1), value.Number(2)), value.Number(3)), value.List(value.Number(1), value.List(value.Number(2), value.Number(3))), false)
}

// P5.2: all values of all sorts, against each other.
func TestSameOfAll(t *testing.T) {
	all := values()
	for _, a := range all {
		same(t, "with itself", a, a, true)
		other := roomy(a)
		same(t, "other memory", a, other, true)
		for _, b := range all {
			if want := equal(a, b); value.Same(a, b) != want || value.Same(b, other) != want {
				t.Fatalf("Same of %v and %v; want %v", a, b, want)
			}
		}
	}
}

// P5.2: a difference is found wherever it stands.
func TestSameFindsEachDifference(t *testing.T) {
	leaf := value.List(value.Number(1), value.Bytes(1, 2))
	v := value.List(value.List(leaf, value.Number(2), value.List(leaf, leaf)), value.Bytes(3), value.List(value.List(), value.List(leaf)))
	for _, path := range [][]int{{}, {0}, {0, 0}, {0, 0, 0}, {0, 0, 1}, {0, 1}, {0, 2}, {0, 2, 0}, {0, 2, 0, 0}, {0, 2, 0, 1}, {0, 2, 1}, {0, 2, 1, 1}, {1}, {2}, {2, 0}, {2, 1}, {2, 1, 0}, {2, 1, 0, 0}, {2, 1, 0, 1}} {
		for _, change := range []func(*api.Value){
			func(at *api.Value) { at.N += 1 << 40 },
			func(at *api.Value) { at.B = append(at.B, 0) },
			func(at *api.Value) { at.L = append(at.L, api.Value{}) },
		} {
			other := roomy(v)
			at := &other
			for _, i := range path {
				at = &at.L[i]
			}
			change(at)
			same(t, "one that differs", v, other, false)
		}
	}
}

// P1, P5.2: values may be as deep as they like.
func TestSameAndCountOfDeepValues(t *testing.T) {
	const deep = 200000
	v := inValues(value.Number(1), deep)
	same(t, "with itself", v, v, true)
	same(t, "as deep", v, inValues(value.Number(1), deep), true)
	same(t, "another one at the ground", v, inValues(value.Number(2), deep), false)
	same(t, "one deeper", v, inValues(v, 1), false)
	counts(t, "deep", v, deep+1)
}

// P1, P5.2: one list may stand in many places: so many that nobody could go through all of them.
func TestSameOfSharedValues(t *testing.T) {
	v := shared(value.Number(1), 200)
	same(t, "with itself", v, v, true)
	same(t, "made apart", v, shared(value.Number(1), 200), true)
	same(t, "another ground", v, shared(value.Number(2), 200), false)
	same(t, "one deeper", v, shared(v, 1), false)

	// A value whose list begins in another one's, but is shorter, is another.
	list := numbers(3).L
	short, long := api.Value{L: list[:2]}, api.Value{L: list}
	same(t, "the beginning of a list", short, long, false)
	same(t, "the beginning of a list, within", value.List(long, long), value.List(long, short), false)
	same(t, "another piece of a list", short, api.Value{L: list[1:]}, true)
}

// P1: values that hold themselves: the calls end, and Same tells a difference where there is one.
func TestSameAndCountOfValuesWithinThemselves(t *testing.T) {
	for _, n := range []int{1, 2, 100} {
		v := selfHeld(n)
		same(t, "with itself", v, v, true)
		same(t, "with another one", v, selfHeld(n), true)
		same(t, "with one of more values", v, selfHeld(n+1), false)
		other := selfHeld(n)
		other.L[n-1] = value.Number(1)
		same(t, "with one that ends", v, other, false)
		counts(t, "no end", v, math.MaxInt)
		counts(t, "no end within", value.List(value.Number(1), value.List(v), value.Number(2)), math.MaxInt)
	}
}

// counts asks what Count answers.
func counts(t *testing.T, what string, v api.Value, want int) {
	t.Helper()
	if n := value.Count(v); n != want {
		t.Errorf("%s: Count: %d; want %d", what, n, want)
	}
}

// P5.2: a value is one, and those in it are counted, and those in these.
func TestCount(t *testing.T) {
	counts(t, "none", api.Value{}, 1)
	counts(t, "a number", value.Number(5), 1)
	counts(t, "the greatest number", value.Number(math.MaxUint64), 1)
	counts(t, "bytes", zeros(100), 1)
	counts(t, "an empty list", value.List(), 1)
	counts(t, "an empty list that isn't nil", api.Value{L: []api.Value{}}, 1)
	for _, n := range []int{1, 2, 3, 1000} {
		counts(t, "numbers", numbers(n), n+1)
	}
	counts(t, "values in values", value.List(value.List(value.Number(1), value.Number(2)), value.List(), value.List(value.List(value.Bytes(1)))), 8)
	counts(t, "with other fields", api.Value{N: 9, B: []byte{1, 2, 3}, L: []api.Value{{N: 3, L: []api.Value{{B: []byte{1}}}}, {}}}, 4)
	counts(t, "values that fit nothing", value.List(api.Value{N: 1, B: []byte{2}}, api.Value{}), 3)
	for _, v := range values() {
		counts(t, "of all sorts", v, askedCount(v))
		counts(t, "of all sorts, other memory", roomy(v), askedCount(v))
	}
	counts(t, "an example", value.List(value.Number(1), value.Bytes(2, 3), value.List()), 4)
}

// P5.2: a value that stands in many places is counted in each.
func TestCountOfSharedValues(t *testing.T) {
	for levels := range 62 {
		counts(t, "each level twice", shared(value.Number(1), levels), 1<<(levels+1)-1)
	}
	for _, levels := range []int{62, 63, 64, 200} {
		counts(t, "as many as an int tells, or more", shared(value.Number(1), levels), math.MaxInt)
	}
	x := value.List(value.Number(1), value.Number(2))
	counts(t, "one twice, and one in it", value.List(x, x, x.L[0], value.List(x)), 1+3+3+1+4)

	// A piece of a list isn't the whole.
	list := []api.Value{x, x, x}
	counts(t, "pieces of a list", value.List(api.Value{L: list[:1]}, api.Value{L: list}, api.Value{L: list[1:]}), 1+4+10+7)
}

// Same and Count ask no form: a value of none is one, too.
func TestSameAndCountAskNoForm(t *testing.T) {
	odd := api.Value{N: 1, B: []byte{1}, L: []api.Value{{N: 1, B: []byte{1}}}}
	for _, f := range []api.Form{layout.Number(1), layout.Fixed(1), layout.Row(layout.Number(1)), layout.List(1, 0, 9, 1, layout.Number(1))} {
		fits(t, "of none", f, odd, api.ErrForm)
	}
	same(t, "of none", odd, roomy(odd), true)
	counts(t, "of none", odd, 2)
}
