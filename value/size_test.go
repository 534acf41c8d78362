package value_test

import (
	"testing"

	"passepartout/api"
	"passepartout/layout"
	"passepartout/value"
)

// P5.2: the size of each Kind, with its length.
func TestSizeOfEachKind(t *testing.T) {
	for _, size := range []int{1, 2, 3, 4, 8} {
		sized(t, "Number", layout.Number(size), value.Number(0), size)
		sized(t, "Number", layout.Number(size), value.Number(greatest[size]), size)
	}
	for _, n := range []int{0, 1, 2, 100, 255} {
		for size := 1; size <= 3; size++ {
			sized(t, "Opaque", layout.Opaque(size, 0, 255), zeros(n), size+n)
			sized(t, "List", layout.List(size, 0, 255, 1, layout.Number(1)), numbers(n), size+n)
		}
		sized(t, "Rest", layout.Rest(0, 255), zeros(n), n)
		sized(t, "Fixed", layout.Fixed(n), zeros(n), n)
	}
	sized(t, "Row", layout.Row(layout.Number(2), layout.Fixed(3), layout.Opaque(1, 0, 9), layout.Rest(0, 9)), value.List(value.Number(1), zeros(3), zeros(4), zeros(5)), 15)
}

// P5.2: each List has a length of its own.
func TestSizeOfListsInLists(t *testing.T) {
	inner := layout.List(1, 0, 255, 1, layout.Number(2))
	middle := layout.List(2, 0, 999, 1, inner)
	outer := layout.List(3, 0, 9999, 1, middle)
	two := numbers(2)
	sized(t, "one", inner, two, 5)
	sized(t, "in one", middle, value.List(two, two, value.List()), 13)
	sized(t, "in two", outer, value.List(value.List(two, two, value.List()), value.List(), value.List(two)), 3+13+2+7)
	sized(t, "none", outer, value.List(), 3)
	sized(t, "of none", outer, value.List(value.List(), value.List(value.List())), 3+2+3)
	sized(t, "of Rows", layout.List(2, 0, 999, 1, layout.Row(layout.Number(2), layout.Opaque(2, 0, 99))), value.List(value.List(value.Number(7), zeros(5)), value.List(value.Number(8), zeros(0))), 2+9+4)

	// The bounds and the Step are those of all bytes in a List, the inner lengths among them.
	sized(t, "5 bytes", layout.List(1, 5, 5, 5, inner), value.List(two), 6)
	fits(t, "5 bytes, of which 4 are numbers", layout.List(1, 4, 4, 4, inner), value.List(two), api.ErrLength)
}

// P5.2: a size may be greater than 32 bits hold.
func TestSizeOfManyBytes(t *testing.T) {
	const most = 1<<24 - 1
	f, v := layout.Fixed(most), zeros(most)
	for range 2 {
		row, list := make([]api.Form, 32), make([]api.Value, 32)
		for i := range row {
			row[i], list[i] = f, v
		}
		f, v = layout.Row(row...), value.List(list...)
	}
	sized(t, "32 Rows of 32", f, v, 1024*most)
}

// P5.2: of a value that doesn't fit the size is 0, also if most of it does.
func TestSizeOfOthers(t *testing.T) {
	f := layout.Row(layout.Number(1), layout.List(1, 0, 9, 1, layout.Number(1)), layout.Rest(0, 3))
	sized(t, "all right", f, value.List(value.Number(1), numbers(2), zeros(3)), 7)
	for _, v := range []api.Value{
		{}, numbers(2), numbers(4), value.Number(1), zeros(1),
		value.List(value.Number(1), numbers(2), zeros(4)), value.List(value.Number(1), numbers(10), zeros(3)),
		value.List(value.Number(1), value.List(value.Number(1), value.Number(256)), zeros(3)), value.List(value.Number(1), numbers(2), value.Number(3)),
		{N: 1, L: []api.Value{{N: 1}, {}, {}}},
	} {
		if e, n := value.Fits(f, v), value.Size(f, v); e == api.OK || n != 0 {
			t.Errorf("%v: %v, Size %d; want an error, 0", v, e, n)
		}
	}
}

// P5.4: the least and the greatest length are reached, and no other size is.
func TestSizeFromLeastToMost(t *testing.T) {
	number, two := layout.Number(1), value.List(value.Number(1), value.Number(2))
	for _, c := range []struct {
		f           api.Form
		least, most api.Value
	}{
		{layout.Number(4), value.Number(0), value.Number(1<<32 - 1)},
		{layout.Opaque(2, 3, 5), zeros(3), zeros(5)},
		{layout.Rest(3, 5), zeros(3), zeros(5)},
		{layout.Fixed(3), zeros(3), zeros(3)},
		{layout.List(1, 2, 6, 2, number), numbers(2), numbers(6)},
		{layout.List(1, 3, 6, 3, layout.Opaque(1, 0, 2)), value.List(zeros(2)), value.List(zeros(2), zeros(2))},
		{layout.Row(), value.List(), value.List()},
		{layout.Row(number, layout.Opaque(1, 0, 2), layout.List(1, 2, 4, 1, number), layout.Rest(0, 1)), value.List(value.Number(9), zeros(0), two, zeros(0)), value.List(value.Number(9), zeros(2), numbers(4), zeros(1))},
	} {
		sized(t, "the least", c.f, c.least, layout.Least(c.f))
		sized(t, "the greatest", c.f, c.most, layout.Most(c.f))
	}
}
