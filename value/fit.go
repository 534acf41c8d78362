package value

import "passepartout/api"

// The fields of a value.
const (
	fieldN = iota
	fieldB
	fieldL
	fieldCount // how many there are
)

// kindFields tells by a form's Kind in which field its values stand.
type kindFields map[int]int

func fieldOfKinds() kindFields {
	return kindFields{
		api.Number: fieldN,
		api.Opaque: fieldB,
		api.List:   fieldL,
		api.Row:    fieldL,
		api.Rest:   fieldB,
		api.Fixed:  fieldB,
	}
}

// filled asks whether a field of a value is neither 0 nor empty.
func filled(v api.Value, field int) bool {
	switch field {
	case fieldN:
		return v.N != 0
	case fieldB:
		return len(v.B) > 0
	}
	return len(v.L) > 0
}

// alone asks whether no field of a value is filled but that one.
func alone(v api.Value, own int) bool {
	for field := range fieldCount {
		if field != own && filled(v, field) {
			return false
		}
	}
	return true
}

// size is a value's size, or why it doesn't fit; the form is a right one. So it goes no deeper than forms do, even if the value holds itself.
func (k kindFields) size(f api.Form, v api.Value) (int, api.Errno) {
	own := k[f.Kind]
	if !alone(v, own) {
		return 0, api.ErrForm
	}
	switch own {
	case fieldN:
		return sizeOfNumber(f, v.N)
	case fieldB:
		return sizeOfBytes(f, len(v.B))
	}
	if f.Kind == api.List {
		return k.sizeOfList(f, v.L)
	}
	return k.sizeOfRow(f, v.L)
}

// sizeOfNumber is size of a Number.
func sizeOfNumber(f api.Form, x uint64) (int, api.Errno) {
	if x>>(8*f.Size) != 0 { // of 8 bytes nothing is left, so each number may be
		return 0, api.ErrRange
	}
	return f.Size, api.OK
}

// sizeOfBytes is size of an Opaque, a Rest or a Fixed that has n bytes.
func sizeOfBytes(f api.Form, n int) (int, api.Errno) {
	switch f.Kind {
	case api.Opaque:
		return sizeWithLength(f, n)
	case api.Rest:
		if n < f.Lo || n > f.Hi {
			return 0, api.ErrLength
		}
	case api.Fixed: // its Hi plays no part
		if n != f.Lo {
			return 0, api.ErrLength
		}
	}
	return n, api.OK
}

// sizeWithLength is size of an Opaque or a List that has n bytes behind its length.
func sizeWithLength(f api.Form, n int) (int, api.Errno) {
	if n < f.Lo || n > f.Hi || n%f.Step != 0 {
		return 0, api.ErrLength
	}
	return f.Size + n, api.OK
}

// sizeOfList is size of a List of these values. All of them are asked ahead of their sizes together, also where these are too many already: another's error goes ahead.
func (k kindFields) sizeOfList(f api.Form, l []api.Value) (int, api.Errno) {
	sum := 0
	for _, v := range l {
		n, e := k.size(f.Parts[0], v)
		if e != api.OK {
			return 0, e
		}
		sum += n
	}
	return sizeWithLength(f, sum)
}

// sizeOfRow is size of a Row of these values.
func (k kindFields) sizeOfRow(f api.Form, l []api.Value) (int, api.Errno) {
	if len(l) != len(f.Parts) {
		return 0, api.ErrForm
	}
	sum := 0
	for i, v := range l {
		n, e := k.size(f.Parts[i], v)
		if e != api.OK {
			return 0, e
		}
		sum += n
	}
	return sum, api.OK
}
