package layout_test

import (
	"math"
	"slices"
	"testing"

	"passepartout/api"
	"passepartout/layout"
)

// edges are ints at which something may change, or wrap round.
var edges = []int{math.MinInt, math.MinInt + 1, -1 << 32, -1 << 31, -65536, -2, -1, 0, 1, 2, 3, 4, 5, 7, 8, 9, 254, 255, 256,
	65534, 65535, 65536, 65537, 1<<24 - 2, 1<<24 - 1, 1 << 24, 1 << 31, 1 << 32, 1<<32 + 1, 1<<32 + 8, math.MaxInt - 1, math.MaxInt}

// kinds are the six.
var kinds = []int{api.Number, api.Opaque, api.List, api.Row, api.Rest, api.Fixed}

// otherKinds are none of the six.
var otherKinds = []int{math.MinInt, -1 << 32, -256, -6, -2, -1, 6, 7, 8, 77, 256, 257, 261, 1 << 32, 1<<32 + 5, math.MaxInt}

// lengthMost are the greatest numbers of lengths, by their sizes.
var lengthMost = map[int]int{1: 255, 2: 65535, 3: 16777215}

// question is one that the chapter's sentence on Check asks of a form itself, and the error of a yes.
type question struct {
	yes bool
	e   api.Errno
}

// questions are those, in that sentence's order.
func questions(f api.Form) []question {
	of := func(some ...int) bool { return slices.Contains(some, f.Kind) }
	return []question{
		{!slices.Contains(kinds, f.Kind), api.ErrArg},
		{of(api.Number) && !slices.Contains([]int{1, 2, 3, 4, 8}, f.Size), api.ErrRange},
		{of(api.Opaque, api.List) && !slices.Contains([]int{1, 2, 3}, f.Size), api.ErrRange},
		{of(api.Opaque, api.List) && (f.Lo < 0 || f.Hi < f.Lo || f.Hi > lengthMost[f.Size]), api.ErrLength},
		{of(api.Opaque, api.List) && (f.Step < 1 || f.Step > 65536), api.ErrLength},
		{of(api.Rest) && (f.Lo < 0 || f.Hi < f.Lo || f.Hi > 16777215), api.ErrLength},
		{of(api.Fixed) && (f.Lo < 0 || f.Lo > 16777215), api.ErrLength},
		{of(api.List) && len(f.Parts) != 1, api.ErrForm},
		{of(api.Row) && len(f.Parts) > 32, api.ErrForm},
	}
}

// askedDepth is a form's depth, by the chapter's words.
func askedDepth(f api.Form) int {
	depth := 0
	if f.Kind == api.List || f.Kind == api.Row {
		for _, p := range f.Parts {
			depth = max(depth, askedDepth(p))
		}
	}
	return depth + 1
}

// askedCheck is what Check is to answer, by the chapter's words, of a form that doesn't hold itself.
func askedCheck(f api.Form) api.Errno {
	if askedDepth(f) > 8 {
		return api.ErrDeep
	}
	return askedWrong(f)
}

func askedWrong(f api.Form) api.Errno {
	for _, q := range questions(f) {
		if q.yes {
			return q.e
		}
	}
	if f.Kind != api.List && f.Kind != api.Row {
		return api.OK
	}
	for _, p := range f.Parts {
		if e := askedWrong(p); e != api.OK {
			return e
		}
	}
	for i, p := range f.Parts {
		least, _ := askedLengths(p)
		if f.Kind == api.List && (askedOpen(p) || least == 0) {
			return api.ErrForm
		}
		if f.Kind == api.Row && i != len(f.Parts)-1 && askedOpen(p) {
			return api.ErrForm
		}
	}
	return api.OK
}

// askedOpen is what Open is to answer of a right form.
func askedOpen(f api.Form) bool {
	for f.Kind == api.Row && len(f.Parts) > 0 {
		f = f.Parts[len(f.Parts)-1]
	}
	return f.Kind == api.Rest
}

// askedLengths are what Least and Most are to answer of a right form.
func askedLengths(f api.Form) (least, most int) {
	switch f.Kind {
	case api.Number:
		return f.Size, f.Size
	case api.Opaque, api.List:
		return f.Size + f.Lo, f.Size + f.Hi
	case api.Rest:
		return f.Lo, f.Hi
	case api.Fixed:
		return f.Lo, f.Lo
	}
	for _, p := range f.Parts {
		l, m := askedLengths(p)
		least, most = least+l, most+m
	}
	return least, most
}

// askedSame is what Same is to answer of two forms that don't hold themselves.
func askedSame(a, b api.Form) bool {
	if a.Kind != b.Kind {
		return false
	}
	size, lo, hi, step := a.Size == b.Size, a.Lo == b.Lo, a.Hi == b.Hi, a.Step == b.Step
	parts := slices.EqualFunc(a.Parts, b.Parts, askedSame)
	switch a.Kind {
	case api.Number:
		return size
	case api.Opaque:
		return size && lo && hi && step
	case api.List:
		return size && lo && hi && step && parts
	case api.Row:
		return parts
	case api.Rest:
		return lo && hi
	case api.Fixed:
		return lo
	}
	return true
}

// equal asks whether two forms are equal in every field, also in those that play no part.
func equal(a, b api.Form) bool {
	return a.Kind == b.Kind && a.Size == b.Size && a.Lo == b.Lo && a.Hi == b.Hi && a.Step == b.Step && slices.EqualFunc(a.Parts, b.Parts, equal)
}

// apart is an equal form that shares no memory.
func apart(f api.Form) api.Form {
	list := f.Parts
	f.Parts = make([]api.Form, len(list))
	for i := range list {
		f.Parts[i] = apart(list[i])
	}
	return f
}

// spoilt is what lies behind a list's length in the memory of roomy forms.
var spoilt = api.Form{Kind: -7, Size: -7, Lo: -7, Hi: -7, Step: -7}

// roomy is an equal form that shares no memory, and has room behind each list of parts.
func roomy(f api.Form) api.Form {
	list := f.Parts
	f.Parts = make([]api.Form, len(list), len(list)+2)
	for i := range list {
		f.Parts[i] = roomy(list[i])
	}
	room := f.Parts[len(list):cap(f.Parts)]
	for i := range room {
		room[i] = spoilt
	}
	return f
}

// untouched asks whether all that lies behind the lists of a roomy form is as it was.
func untouched(f api.Form) bool {
	for _, r := range f.Parts[len(f.Parts):cap(f.Parts)] {
		if !equal(r, spoilt) {
			return false
		}
	}
	return !slices.ContainsFunc(f.Parts, func(p api.Form) bool { return !untouched(p) })
}

// repeat is a list of one form so many times.
func repeat(f api.Form, n int) []api.Form {
	return slices.Repeat([]api.Form{f}, n)
}

// inRows is a form in so many Rows, one within the other.
func inRows(f api.Form, n int) api.Form {
	for range n {
		f = layout.Row(f)
	}
	return f
}

// inLists is a form in so many Lists, one within the other.
func inLists(f api.Form, n int) api.Form {
	for range n {
		f = layout.List(1, 0, 9, 1, f)
	}
	return f
}

// selfHeld is a form of that Kind whose parts are itself, so many times.
func selfHeld(kind, n int) api.Form {
	f := api.Form{Kind: kind, Size: 1, Lo: 1, Hi: 9, Step: 1, Parts: make([]api.Form, n)}
	for i := range f.Parts {
		f.Parts[i] = f
	}
	return f
}

// pool are forms of all sorts: right, open, empty, and wrong in each way.
func pool() []api.Form {
	number := layout.Number(1)
	return []api.Form{
		number, layout.Number(8), layout.Number(5),
		layout.Opaque(1, 0, 255), layout.Opaque(2, 3, 9), layout.Opaque(4, 0, 9), layout.Opaque(1, 0, 256),
		{Kind: api.Opaque, Size: 1}, {Kind: api.Opaque, Size: 1, Step: 1, Parts: inRows(number, 9).Parts},
		layout.List(1, 0, 9, 1, number), layout.List(2, 0, 9, 2, layout.Fixed(0)), layout.List(2, 0, 9, 2, layout.Rest(1, 2)),
		layout.List(0, 0, 9, 1, layout.Number(7)), {Kind: api.List, Size: 1, Step: 1}, {Kind: api.List, Size: 1, Step: 1, Parts: repeat(number, 2)},
		layout.Row(), layout.Row(number, layout.Fixed(0)), layout.Row(layout.Rest(0, 3)), layout.Row(number, layout.Row(layout.Rest(1, 3))),
		layout.Row(layout.Rest(0, 3), number), {Kind: api.Row, Parts: repeat(number, 33)},
		layout.Rest(0, 0), layout.Rest(2, 1), layout.Fixed(0), layout.Fixed(3), layout.Fixed(-1),
		{Kind: 6}, {Kind: -1, Parts: inRows(number, 9).Parts},
		inRows(number, 6), inRows(number, 7), inRows(layout.Rest(0, 1), 6), inLists(number, 6), inLists(number, 8),
	}
}

// checks asks what Check answers.
func checks(t *testing.T, what string, f api.Form, want api.Errno) {
	t.Helper()
	if e := layout.Check(f); e != want {
		t.Errorf("%s: Check: %v; want %v", what, e, want)
	}
}
