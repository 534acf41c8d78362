package der

import (
	"bytes"

	"passepartout/api"
)

// pair are two things whose lists are to be the same.
type pair struct{ a, b *api.Node }

// Same asks whether two things are the same, field by field.
func Same(a, b api.Node) bool {
	return sameAlone(a, b) && sameInside(a, b)
}

// sameInside is Same of two things that are the same but for those in them.
func sameInside(a, b api.Node) bool {
	// Things may be any: too deep for calls within calls, or with one list in many places, even within itself.
	// So the pairs whose lists are left to compare stand in a list, and none comes to stand there twice.
	left := []pair{{&a, &b}}
	met := map[pair]bool{}
	for len(left) > 0 {
		p := left[len(left)-1]
		left = left[:len(left)-1]
		for i := range p.a.L {
			next := pair{&p.a.L[i], &p.b.L[i]}
			if !sameAlone(*next.a, *next.b) {
				return false
			}
			if next.a != next.b && len(next.a.L) > 0 && !met[next] {
				met[next] = true
				left = append(left, next)
			}
		}
	}
	return true
}

// sameAlone is Same, but that of those in them only the number is asked.
func sameAlone(a, b api.Node) bool {
	return a.Class == b.Class && a.Tag == b.Tag && a.Made == b.Made && bytes.Equal(a.B, b.B) && len(a.L) == len(b.L)
}
