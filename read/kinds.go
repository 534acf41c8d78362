package read

import (
	"passepartout/api"
	"passepartout/cursor"
	"passepartout/tally"
)

// fault is what is wrong with bytes, and where. Of one that is OK there is none.
type fault struct {
	at int
	e  api.Errno
}

// step reads a form of one Kind. The cursor goes through the bytes in which the form stands, so its end is theirs.
type step func(r *reader, c *cursor.Cursor, f api.Form) (api.Value, fault)

// reader reads right forms, by what each Kind does, and counts them.
type reader struct {
	tally *tally.Tally
	kinds [api.Fixed + 1]step
}

// kindSteps are the steps, each at the number of its Kind.
func kindSteps() [api.Fixed + 1]step {
	return [api.Fixed + 1]step{
		api.Number: (*reader).number,
		api.Opaque: (*reader).opaque,
		api.List:   (*reader).list,
		api.Row:    (*reader).row,
		api.Rest:   (*reader).rest,
		api.Fixed:  (*reader).fixed,
	}
}

// form counts a form, and reads it.
func (r *reader) form(c *cursor.Cursor, f api.Form) (api.Value, fault) {
	if r.tally != nil && r.tally.Spend(1) != api.OK {
		return api.Value{}, fault{c.At(), api.ErrCap}
	}
	return r.kinds[f.Kind](r, c, f)
}

// number reads a Number.
func (r *reader) number(c *cursor.Cursor, f api.Form) (api.Value, fault) {
	x, e := c.Number(f.Size)
	if e != api.OK {
		return api.Value{}, fault{c.End(), e}
	}
	return api.Value{N: x}, fault{}
}

// opaque reads an Opaque.
func (r *reader) opaque(c *cursor.Cursor, f api.Form) (api.Value, fault) {
	n, wrong := length(c, f)
	if wrong.e != api.OK {
		return api.Value{}, wrong
	}
	return take(c, n)
}

// list reads a List.
func (r *reader) list(c *cursor.Cursor, f api.Form) (api.Value, fault) {
	n, wrong := length(c, f)
	if wrong.e != api.OK {
		return api.Value{}, wrong
	}
	own, e := c.Sub(n)
	if e != api.OK {
		return api.Value{}, fault{c.End(), e}
	}
	var l []api.Value
	for own.Left() > 0 {
		v, wrong := r.form(own, f.Parts[0])
		if wrong.e != api.OK {
			return api.Value{}, wrong
		}
		l = append(l, v)
	}
	return api.Value{L: l}, fault{}
}

// row reads a Row.
func (r *reader) row(c *cursor.Cursor, f api.Form) (api.Value, fault) {
	l := make([]api.Value, len(f.Parts))
	for i, p := range f.Parts {
		v, wrong := r.form(c, p)
		if wrong.e != api.OK {
			return api.Value{}, wrong
		}
		l[i] = v
	}
	return api.Value{L: l}, fault{}
}

// rest reads a Rest.
func (r *reader) rest(c *cursor.Cursor, f api.Form) (api.Value, fault) {
	n := c.Left()
	if n < f.Lo {
		return api.Value{}, fault{c.End(), api.ErrShort}
	}
	if n > f.Hi {
		return api.Value{}, fault{c.At() + f.Hi, api.ErrTrail}
	}
	return take(c, n)
}

// fixed reads a Fixed.
func (r *reader) fixed(c *cursor.Cursor, f api.Form) (api.Value, fault) {
	return take(c, f.Lo)
}

// length reads the length of an Opaque or a List. What it may be is asked ahead of whether so many bytes are left.
func length(c *cursor.Cursor, f api.Form) (int, fault) {
	at := c.At()
	x, e := c.Number(f.Size)
	if e != api.OK {
		return 0, fault{c.End(), e}
	}
	n := int(x) // a length has at most 3 bytes
	if n < f.Lo || n > f.Hi || n%f.Step != 0 {
		return 0, fault{at, api.ErrLength}
	}
	return n, fault{}
}

// take reads so many bytes, into a list of their own.
func take(c *cursor.Cursor, n int) (api.Value, fault) {
	b, e := c.Take(n)
	if e != api.OK {
		return api.Value{}, fault{c.End(), e}
	}
	return api.Value{B: b}, fault{}
}
