package write_test

import (
	"math"
	"slices"
	"testing"

	"passepartout/api"
	"passepartout/layout"
	"passepartout/value"
	"passepartout/write"
)

// varies asks that Vary answers that value.
func varies(t *testing.T, v api.Value, path []int, x, want api.Value) {
	t.Helper()
	if w, e := write.Vary(v, path, x); e != api.OK || !equal(w, want) {
		t.Errorf("Vary(%v, %v, %v): %v, %v; want %v", v, path, x, w, e, want)
	}
}

// leadsNowhere asks that Vary answers ErrRange, and no value.
func leadsNowhere(t *testing.T, v api.Value, path ...int) {
	t.Helper()
	for _, x := range []api.Value{{}, value.Number(3), v} {
		if w, e := write.Vary(v, path, x); e != api.ErrRange || !equal(w, api.Value{}) {
			t.Errorf("Vary(%v, %v, %v): %v, %v; want no value, %v", v, path, x, w, e, api.ErrRange)
		}
	}
}

// tree is some values in one, of which each field is filled somewhere on the way.
func tree() api.Value {
	return value.List(
		value.Number(1),
		value.Bytes(2, 3),
		api.Value{N: 4, B: some(5, 6), L: []api.Value{value.Number(7), {N: 8, B: some(9), L: []api.Value{value.Bytes(10), value.List()}}, value.List(value.Number(11))}},
		value.List(value.List(value.List(value.Number(12)))),
	)
}

// paths are all paths that lead to a value.
func paths(v api.Value) [][]int {
	all := [][]int{{}}
	for i, in := range v.L {
		for _, p := range paths(in) {
			all = append(all, append([]int{i}, p...))
		}
	}
	return all
}

// at is the value to which a path leads.
func at(v api.Value, path []int) api.Value {
	for _, i := range path {
		v = v.L[i]
	}
	return v
}

// P7.2: the empty path, and paths of one and of several numbers.
func TestVary(t *testing.T) {
	v := value.List(value.Number(1), value.List(value.Bytes(2), numbers(3, 4)), value.Bytes(5))
	x := value.Bytes(9, 8)
	varies(t, v, nil, x, x)
	varies(t, v, []int{}, x, x)
	varies(t, api.Value{}, nil, x, x)
	varies(t, value.Number(7), nil, api.Value{}, api.Value{})
	varies(t, v, []int{0}, x, value.List(x, v.L[1], v.L[2]))
	varies(t, v, []int{1}, x, value.List(v.L[0], x, v.L[2]))
	varies(t, v, []int{2}, x, value.List(v.L[0], v.L[1], x))
	varies(t, v, []int{1, 0}, x, value.List(v.L[0], value.List(x, v.L[1].L[1]), v.L[2]))
	varies(t, v, []int{1, 1, 0}, x, value.List(v.L[0], value.List(v.L[1].L[0], value.List(x, value.Number(4))), v.L[2]))
	varies(t, v, []int{1, 1, 1}, x, value.List(v.L[0], value.List(v.L[1].L[0], value.List(value.Number(3), x)), v.L[2]))
	varies(t, value.List(value.Number(1)), []int{0}, x, value.List(x))

	// The value in itself.
	varies(t, v, []int{1, 1}, v, value.List(v.L[0], value.List(v.L[1].L[0], v), v.L[2]))
}

// P7.2: numbers below 0 and too great, and paths that go on where there is no list.
func TestVaryLedNowhere(t *testing.T) {
	v := value.List(value.Number(1), value.List(value.Bytes(2), numbers(3, 4)), value.Bytes(5))
	for _, i := range []int{3, 4, -1, -2, -3, math.MinInt, math.MaxInt, 1 << 32, -1 << 32} {
		leadsNowhere(t, v, i)
		leadsNowhere(t, v, i, 0)
		leadsNowhere(t, v, 0, i)
		leadsNowhere(t, v, 1, i)
		leadsNowhere(t, v, 1, 1, i)
		leadsNowhere(t, v, 1, i, 1)
		leadsNowhere(t, api.Value{}, i)
	}
	leadsNowhere(t, v, 0, 0)
	leadsNowhere(t, v, 2, 0)
	leadsNowhere(t, v, 1, 0, 0)
	leadsNowhere(t, v, 1, 2)
	leadsNowhere(t, v, 1, 1, 2)
	leadsNowhere(t, v, 1, 1, 1, 0)
	leadsNowhere(t, v, 1, 1, 1, 0, 0, 0)
	for _, none := range []api.Value{{}, value.Number(1), value.Bytes(1, 2), value.List()} {
		leadsNowhere(t, none, 0)
		leadsNowhere(t, none, 0, 0)
	}
}

// P7.2: each place of a value, and, from there, one step on that there isn't.
func TestVaryOfAll(t *testing.T) {
	for _, v := range append(values(), tree()) {
		for _, path := range paths(v) {
			for _, x := range []api.Value{{}, value.Number(77), {N: 1, B: some(2), L: []api.Value{value.Bytes(3), value.List(value.Number(4))}}} {
				want, led := modelVaried(v, path, x)
				w, e := write.Vary(v, path, x)
				if !led || e != api.OK || !equal(w, want) || !value.Same(w, want) {
					t.Fatalf("Vary(%v, %v, %v): %v, %v; want %v", v, path, x, w, e, want)
				}
				if got := at(w, path); !equal(got, x) {
					t.Fatalf("Vary(%v, %v, %v): %v there", v, path, x, got)
				}

				// Varied back it is what it was.
				if w, e = write.Vary(w, path, at(v, path)); e != api.OK || !equal(w, v) {
					t.Fatalf("Vary(%v, %v, %v) and back: %v, %v", v, path, x, w, e)
				}
			}
			n := len(at(v, path).L)
			for _, i := range []int{-1, n, n + 1} {
				leadsNowhere(t, v, append(slices.Clip(path), i)...)
			}
		}
	}
}

// P7.2: what is varied is what is written then.
func TestVaryAndWrite(t *testing.T) {
	f := layout.Row(layout.Number(2), layout.List(1, 0, 4, 2, layout.Number(1)))
	v := value.List(value.Number(258), numbers(5, 6))
	for _, c := range []struct {
		path []int
		x    api.Value
		want []byte
		e    api.Errno
	}{
		{[]int{0}, value.Number(3), some(0, 3, 2, 5, 6), api.OK},
		{[]int{0}, value.Number(65536), nil, api.ErrRange},
		{[]int{1, 1}, value.Number(7), some(1, 2, 2, 5, 7), api.OK},
		{[]int{1, 1}, value.Number(256), nil, api.ErrRange},
		{[]int{1, 1}, value.Bytes(7), nil, api.ErrForm},
		{[]int{1}, numbers(), some(1, 2, 0), api.OK},
		{[]int{1}, numbers(1, 2, 3, 4), some(1, 2, 4, 1, 2, 3, 4), api.OK},
		{[]int{1}, numbers(1, 2, 3), nil, api.ErrLength},
		{nil, value.List(value.Number(0), numbers()), some(0, 0, 0), api.OK},
		{nil, value.Number(0), nil, api.ErrForm},
	} {
		w, e := write.Vary(v, c.path, c.x)
		if e != api.OK {
			t.Fatalf("Vary(%v, %v, %v): %v", v, c.path, c.x, e)
		}
		if c.e == api.OK {
			writes(t, "a varied value", f, w, c.want)
		} else {
			fails(t, "a varied value", f, w, c.e)
		}
		writes(t, "the value itself", f, v, some(1, 2, 2, 5, 6))
	}
}

// P7.2: of a list that stands in several places only the one to which the path leads is another.
func TestVaryOfSharedLists(t *testing.T) {
	x := value.Number(99)
	in := numbers(1, 2)
	two := value.List(in, in)
	varies(t, two, []int{0, 1}, x, value.List(value.List(value.Number(1), x), numbers(1, 2)))
	varies(t, two, []int{1, 0}, x, value.List(numbers(1, 2), value.List(x, value.Number(2))))
	four := value.List(two, two)
	varies(t, four, []int{1, 0, 0}, x, value.List(two, value.List(value.List(x, value.Number(2)), in)))
	varies(t, four, []int{0}, in, value.List(in, two))

	// Lists that overlap in their memory.
	l := []api.Value{value.Number(1), value.Number(2), value.Number(3)}
	v := api.Value{L: []api.Value{{L: l}, {L: l[:2]}, {L: l[1:]}, {L: l[1:2]}}}
	want := [][]byte{{1, 2, 3}, {1, 2}, {2, 3}, {2}}
	for i := range want {
		for j := range want[i] {
			w, e := write.Vary(v, []int{i, j}, x)
			for k := range want {
				inner := slices.Clone(want[k])
				if k == i {
					inner[j] = 99
				}
				if e != api.OK || !equal(w.L[k], numbers(inner...)) {
					t.Errorf("[%d %d]: list %d is %v", i, j, k, w.L[k])
				}
			}
		}
	}

	// More values than can be gone through one by one.
	for range 60 {
		four = value.List(four, four)
	}
	path := append(make([]int, 60), 1, 1, 1)
	w, e := write.Vary(four, path, x)
	if e != api.OK || !equal(at(w, path), x) || !equal(at(w, append(make([]int, 60), 1, 1)), value.List(value.Number(1), x)) || !equal(at(w, append(make([]int, 60), 1, 0)), in) {
		t.Error(e)
	}
	if w, e := write.Vary(value.Number(1), nil, four); e != api.OK || value.Count(w) != math.MaxInt {
		t.Error(value.Count(w), e)
	}
}

// P1: values that hold themselves, and such as are too deep for calls within calls.
func TestVaryOfEndlessValues(t *testing.T) {
	x := value.Number(99)
	for _, n := range []int{1, 2, 32} {
		v := selfHeld(n)
		for _, path := range [][]int{{0}, {n - 1}, {0, n - 1, 0}, make([]int, 300)} {
			w, e := write.Vary(v, path, x)
			if e != api.OK || !equal(at(w, path), x) {
				t.Fatalf("%v: %v", path, e)
			}
			for step := range path {
				if len(at(w, path[:step]).L) != n {
					t.Fatalf("%v: another value %d steps on", path, step)
				}
				// Beside the path it goes on without an end, and x doesn't stand there.
				if n > 1 {
					beside := at(w, append(slices.Clip(path[:step]), 1-min(path[step], 1)))
					if len(beside.L) != n || !value.Same(beside, v) {
						t.Fatalf("%v: another value beside it, %d steps on", path, step)
					}
				}
			}
		}
		if w, e := write.Vary(v, []int{0, n}, x); e != api.ErrRange || !equal(w, api.Value{}) {
			t.Error(e)
		}
		if w, e := write.Vary(v, nil, v); e != api.OK || !value.Same(w, v) {
			t.Error(e)
		}
		if w, e := write.Vary(numbers(1, 2), []int{1}, v); e != api.OK || w.L[0].N != 1 || !value.Same(w.L[1], v) {
			t.Error(e)
		}
		if !value.Same(v, selfHeld(n)) {
			t.Error("the value that was handed in was changed")
		}
	}
	const deep = 1000000
	v := inValues(value.Number(1), deep)
	path := make([]int, deep)
	if w, e := write.Vary(v, path, x); e != api.OK || !equal(at(w, path), x) || !equal(at(v, path), value.Number(1)) {
		t.Error(e)
	}
	if w, e := write.Vary(v, append(path, 0), x); e != api.ErrRange || !equal(w, api.Value{}) {
		t.Error(e)
	}
	if w, e := write.Vary(v, []int{0, 0}, v); e != api.OK || value.Count(w) != deep+3 {
		t.Error(value.Count(w), e)
	}
}

// Rule 4: Vary changes nothing that it was handed, nor what lies behind it; and its answer shares no memory with that, nor with another answer.
func TestVariedValuesAreApart(t *testing.T) {
	other := api.Value{N: 1, B: some(2, 3), L: []api.Value{value.Bytes(3), value.List(value.Number(4), value.Bytes(5))}}
	for _, v := range append(grounds(), tree(), value.List(tree(), tree())) {
		for _, path := range append(paths(v), []int{-1}, []int{0, 99}, []int{99}) {
			for _, x := range []api.Value{{}, other} {
				want, led := modelVaried(v, path, x)
				if !led {
					want = api.Value{}
				}
				in, at, out := roomy(v), append(slices.Clone(path), 77)[:len(path)], roomy(x)
				asItWas := func() bool {
					return equal(in, v) && untouched(in) && equal(out, x) && untouched(out) && slices.Equal(at, path) && at[:len(path)+1][len(path)] == 77
				}
				first, _ := write.Vary(in, at, out)
				second, _ := write.Vary(in, at, out)
				if !equal(first, want) || !equal(second, want) || !asItWas() {
					t.Fatalf("Vary(%v, %v, %v): %v, %v; what was handed in is %v, %v, %v now", v, path, x, first, second, in, at, out)
				}
				spoil(&first)
				if !asItWas() {
					t.Fatalf("Vary(%v, %v, %v): a changed answer changes what was handed in: %v, %v", v, path, x, in, out)
				}
				if !equal(second, want) {
					t.Fatalf("Vary(%v, %v, %v): a changed answer changes another: %v", v, path, x, second)
				}
				spoil(&in)
				spoil(&out)
				if !equal(second, want) {
					t.Fatalf("Vary(%v, %v, %v): what is changed behind the call changes its answer: %v", v, path, x, second)
				}
			}
		}
	}
}
