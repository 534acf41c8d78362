package read_test

import (
	"math"
	"slices"
	"sync"
	"sync/atomic"
	"testing"

	"passepartout/api"
	"passepartout/layout"
	"passepartout/read"
	"passepartout/tally"
	"passepartout/value"
)

// counts asks what Counted answers, and which count it leaves behind in a tally that may count so many, at every base.
func counts(t *testing.T, f api.Form, b []byte, most int, want answer, count int) {
	t.Helper()
	for _, base := range bases {
		x := newTally(t, most)
		if a := got(read.Counted(x, f, b, base)); !a.is(want, base) || x.Count() != count || x.Left() != most-count {
			t.Errorf("Counted(most %d, %v, %v, %d): %v, Count %d; want %v from %d on, Count %d", most, f, b, base, a, x.Count(), want, base, count)
		}
	}
}

// P6.3: tallies that bear as many forms as are begun, and each number of fewer: the form that is refused is told by its place.
func TestCountedUpToEachForm(t *testing.T) {
	one := layout.Number(1)
	pairs := layout.List(2, 0, 99, 1, layout.Row(one, layout.Opaque(1, 0, 3)))
	for _, c := range []struct {
		f     api.Form
		b     []byte
		begun []int // the places of the forms, in the order in which they are begun
	}{
		{one, some(7), []int{0}},
		{layout.Number(8), numbered(8), []int{0}},
		{layout.Opaque(2, 0, 9), some(0, 3, 1, 2, 3), []int{0}},
		{layout.Rest(0, 9), numbered(4), []int{0}},
		{layout.Rest(0, 9), nil, []int{0}},
		{layout.Fixed(3), numbered(3), []int{0}},
		{layout.Row(), nil, []int{0}},
		{layout.Row(layout.Row(), layout.Fixed(0), layout.Row(layout.Row())), nil, []int{0, 0, 0, 0, 0}},
		{layout.List(1, 0, 9, 1, layout.Row(one)), some(3, 1, 2, 3), []int{0, 1, 1, 2, 2, 3, 3}},
		{layout.List(1, 0, 9, 1, one), some(0), []int{0}},
		{layout.Row(one, layout.Number(2), one), some(1, 2, 3, 4), []int{0, 0, 1, 3}},
		{pairs, some(0, 6, 1, 2, 5, 6, 3, 0), []int{0, 2, 2, 3, 6, 6, 7}},
		{layout.Row(pairs, one, pairs), some(0, 2, 9, 0, 7, 0, 0), []int{0, 0, 2, 2, 3, 4, 5}},
		{layout.List(1, 0, 9, 1, layout.List(1, 0, 9, 1, one)), some(5, 2, 7, 8, 0, 0), []int{0, 1, 2, 3, 4, 5}},
		{layout.Row(layout.Fixed(2), layout.Row(layout.Fixed(0), layout.Rest(0, 9))), some(1, 2, 3), []int{0, 0, 2, 2, 2}},
	} {
		whole := got(read.Read(c.f, c.b, 0))
		if whole.e != api.OK {
			t.Fatalf("%v isn't of %v: %v", c.b, c.f, whole)
		}
		n := len(c.begun)
		for _, most := range []int{n, n + 1, 1000, math.MaxInt} {
			counts(t, c.f, c.b, most, whole, n)
		}
		for most, place := range c.begun {
			counts(t, c.f, c.b, most, answer{at: place, e: api.ErrCap}, most)
		}
	}
}

// P6.3: what was begun ahead of another error is counted, too; a form that is refused goes ahead of what is wrong with its bytes, and behind what is wrong ahead of it.
func TestCountedOfWrongBytes(t *testing.T) {
	one, short := layout.Number(1), layout.Opaque(1, 1, 3)
	for _, c := range []struct {
		f     api.Form
		b     []byte
		at    int
		e     api.Errno
		begun []int
	}{
		{one, nil, 0, api.ErrShort, []int{0}},
		{one, some(7, 7), 1, api.ErrTrail, []int{0}},
		{short, some(4), 0, api.ErrLength, []int{0}},
		{short, some(2, 1), 2, api.ErrShort, []int{0}},
		{layout.Fixed(3), some(1), 1, api.ErrShort, []int{0}},
		{layout.Rest(2, 3), some(1), 1, api.ErrShort, []int{0}},
		{layout.Rest(2, 3), numbered(4), 3, api.ErrTrail, []int{0}},
		{layout.Row(one, short, one), some(1, 0), 1, api.ErrLength, []int{0, 0, 1}},
		{layout.Row(one, one, one), some(1), 1, api.ErrShort, []int{0, 0, 1}},
		{layout.Row(one, one), some(1, 2, 3), 2, api.ErrTrail, []int{0, 0, 1}},
		{layout.List(1, 2, 9, 1, one), some(1, 7), 0, api.ErrLength, []int{0}},
		{layout.List(1, 2, 9, 1, one), some(3, 7), 2, api.ErrShort, []int{0}},
		{layout.List(1, 2, 9, 1, one), some(2, 7, 7, 7), 3, api.ErrTrail, []int{0, 1, 2}},
		{layout.List(1, 2, 9, 1, short), some(5, 1, 9, 0, 1, 9), 3, api.ErrLength, []int{0, 1, 3}},
		{layout.List(1, 2, 9, 1, layout.Row(one, one)), some(3, 7, 8, 9), 4, api.ErrShort, []int{0, 1, 1, 2, 3, 3, 4}},
	} {
		n := len(c.begun)
		for _, most := range []int{n, n + 1, math.MaxInt} {
			counts(t, c.f, c.b, most, answer{at: c.at, e: c.e}, n)
		}
		for most, place := range c.begun {
			counts(t, c.f, c.b, most, answer{at: place, e: api.ErrCap}, most)
		}
	}
}

// P6.3: of a form that Check refuses nothing is begun, and nothing counted.
func TestCountedOfWrongForms(t *testing.T) {
	for _, w := range wrongForms() {
		for _, b := range [][]byte{nil, some(1), some(9, 9, 9)} {
			counts(t, w.f, b, 0, answer{e: w.e}, 0)
			counts(t, w.f, b, 1000, answer{e: w.e}, 0)
		}
	}
}

// P6.3: a tally that counted already goes on from there.
func TestCountedOnAndOn(t *testing.T) {
	f, b := layout.List(1, 0, 9, 1, layout.Number(1)), some(2, 7, 8)
	x := newTally(t, 10)
	if e := x.Spend(2); e != api.OK {
		t.Fatal(e)
	}
	for _, count := range []int{5, 8} {
		if v, at, e := read.Counted(x, f, b, 0); e != api.OK || at != 3 || len(v.L) != 2 || x.Count() != count {
			t.Errorf("%v, %d, %v, Count %d; want Count %d", v, at, e, x.Count(), count)
		}
	}
	for range 2 {
		at, want := 2, 10
		if x.Left() == 0 {
			at = 0
		}
		if a := got(read.Counted(x, f, b, 50)); !a.is(answer{at: at, e: api.ErrCap}, 50) || x.Count() != want {
			t.Errorf("%v, Count %d; want ErrCap at %d, Count %d", a, x.Count(), 50+at, want)
		}
	}

	// Other calls count nothing in it.
	if _, _, e := read.Read(f, b, 0); e != api.OK || x.Count() != 10 {
		t.Error(e, x.Count())
	}
	if _, _, e := read.Prefix(f, b, 0); e != api.OK || x.Count() != 10 {
		t.Error(e, x.Count())
	}
}

// P2: two tallies have nothing to do with one another.
func TestTalliesApart(t *testing.T) {
	f := layout.Row(layout.Number(1), layout.Number(1))
	x, y := newTally(t, 5), newTally(t, 2)
	if _, _, e := read.Counted(x, f, some(1, 2), 0); e != api.OK || x.Count() != 3 || y.Count() != 0 {
		t.Error(e, x.Count(), y.Count())
	}
	if _, at, e := read.Counted(y, f, some(1, 2), 0); e != api.ErrCap || at != 1 || x.Count() != 3 || y.Count() != 2 {
		t.Error(at, e, x.Count(), y.Count())
	}
}

// P6.3: a nil tally refuses nothing, however many forms there are.
func TestCountedByNobody(t *testing.T) {
	f := layout.List(3, 0, 1<<24-1, 1, layout.Row(layout.Number(1)))
	b := slices.Concat(digits(300000, 3), make([]byte, 300000))
	v, at, e := read.Counted(nil, f, b, 0)
	if e != api.OK || at != len(b) || len(v.L) != 300000 {
		t.Error(len(v.L), at, e)
	}
	if _, at, e := read.Counted(nil, f, b[:9], 7); e != api.ErrShort || at != 16 {
		t.Error(at, e)
	}
	for _, w := range wrongForms() {
		if a := got(read.Counted(nil, w.f, b, 9)); !a.is(answer{e: w.e}, 9) {
			t.Errorf("%v: %v; want %v", w.f, a, w.e)
		}
	}
}

// P6.3, and rule 6: many may read by one form, from the same bytes, and count by one tally.
func TestManyCount(t *testing.T) {
	f := layout.Row(layout.List(1, 0, 99, 1, layout.Row(layout.Number(1), layout.Opaque(1, 0, 3))), layout.Rest(0, 9))
	b := some(6, 7, 0, 8, 2, 5, 6, 42)
	want := value.List(value.List(value.List(value.Number(7), value.Bytes()), value.List(value.Number(8), value.Bytes(5, 6))), value.Bytes(42))
	const workers, rounds, forms = 8, 500, 9
	for _, most := range []int{workers * rounds * forms, workers*rounds*forms - 1, workers * rounds * forms / 2} {
		x := newTally(t, most)
		var done atomic.Int64
		together(workers, func() {
			for range rounds {
				a := got(read.Counted(x, f, b, 3))
				if a.e == api.OK {
					done.Add(1)
				}
				if a.e != api.OK && (a.e != api.ErrCap || !equal(a.v, api.Value{})) || a.e == api.OK && (a.at != 11 || !equal(a.v, want)) {
					t.Errorf("%v; want %v or ErrCap", a, want)
				}
			}
		})
		if all := most == workers*rounds*forms; x.Count() != most || all != (done.Load() == workers*rounds) {
			t.Errorf("Count %d of %d, %d were read", x.Count(), most, done.Load())
		}
	}
}

// together runs work in so many goroutines, and waits for all of them.
func together(n int, work func()) {
	var all sync.WaitGroup
	for range n {
		all.Go(work)
	}
	all.Wait()
}

// P6.4: Counted bears each Read by a tally of as many as there are forms in its form, times twice its bytes and one.
func TestStepsAreBounded(t *testing.T) {
	one := layout.Number(1)
	rows := layout.Row(slices.Concat([]api.Form{one}, slices.Repeat([]api.Form{layout.Row()}, 31))...)
	for _, f := range []api.Form{
		one, layout.Row(), layout.Row(slices.Repeat([]api.Form{layout.Row(layout.Fixed(0))}, 32)...),
		layout.List(3, 0, 1<<24-1, 1, one), layout.List(3, 0, 1<<24-1, 1, rows), layout.List(3, 0, 1<<24-1, 1, inRows(rows, 3)),
		layout.List(3, 0, 1<<24-1, 1, layout.List(1, 0, 255, 1, one)), layout.List(3, 0, 1<<24-1, 1, layout.List(1, 0, 255, 1, rows)),
		layout.List(1, 0, 255, 1, layout.List(1, 0, 255, 1, layout.List(1, 0, 255, 1, layout.List(1, 0, 255, 1, layout.List(1, 0, 255, 1, layout.List(1, 0, 255, 1, layout.List(1, 0, 255, 1, one))))))),
		layout.Row(slices.Repeat([]api.Form{layout.List(1, 0, 255, 1, rows)}, 32)...),
	} {
		for _, n := range []int{0, 1, 2, 3, 4, 100, 5000} {
			for _, fill := range []byte{0, 1, 2, 3} {
				b := make([]byte, n)
				for i := range b {
					b[i] = fill
				}
				if n > 3 && f.Kind == api.List {
					copy(b, digits(uint64(n-f.Size), f.Size))
				}
				bounded(t, f, b)
			}
		}
	}
}

// bounded asks that a Read's steps are no more than P6.4 says.
func bounded(t *testing.T, f api.Form, b []byte) {
	t.Helper()
	most := formCount(f) * (2*len(b) + 1)
	x, _ := tally.New(most)
	counted, whole := got(read.Counted(x, f, b, 0)), got(read.Read(f, b, 0))
	if counted.e == api.ErrCap || !counted.is(whole, 0) {
		t.Errorf("Counted(most %d, %v) of %d bytes: %d, %v; want %d, %v", most, f, len(b), counted.at, counted.e, whole.at, whole.e)
	}
	if counted.e == api.OK && x.Count() != value.Count(counted.v) {
		t.Errorf("Counted(%v, %v): Count %d of %d values", f, b, x.Count(), value.Count(counted.v))
	}
}
