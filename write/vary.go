package write

import (
	"slices"

	"passepartout/api"
)

// memory is where a list that isn't empty lies.
type memory struct {
	first  *api.Value
	length int
}

// Vary is a value with another one in the place to which a path leads.
func Vary(v api.Value, path []int, x api.Value) (api.Value, api.Errno) {
	at := &v
	for _, i := range path {
		if i < 0 || i >= len(at.L) {
			return api.Value{}, api.ErrRange
		}
		// A list of its own for each step: the one that was handed in stays, and may stand in other places, too, where x doesn't come to stand.
		at.L = slices.Clone(at.L)
		at = &at.L[i]
	}
	*at = x
	return apart(v), api.OK
}

// apart is a value as it was, without any of its memory.
func apart(v api.Value) api.Value {
	// Values may be any: too deep for calls within calls, or with one list in many places, even within itself.
	// So the lists whose values still have the old memory stand in a list, and each is copied once.
	own := []api.Value{v}
	left := [][]api.Value{own}
	copies := map[memory][]api.Value{}
	for len(left) > 0 {
		l := left[len(left)-1]
		left = left[:len(left)-1]
		for i := range l {
			l[i].B = slices.Clone(l[i].B)
			if len(l[i].L) == 0 {
				l[i].L = nil
				continue
			}
			old := memory{&l[i].L[0], len(l[i].L)}
			again, met := copies[old]
			if !met {
				again = slices.Clone(l[i].L)
				copies[old] = again
				left = append(left, again)
			}
			l[i].L = again
		}
	}
	return own[0]
}
