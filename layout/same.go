package layout

import "passepartout/api"

// pair are two forms whose parts are to be the same.
type pair struct{ a, b *api.Form }

// Same asks whether two forms are the same, by the fields that play a part in their Kind.
func Same(a, b api.Form) bool {
	return sameAlone(a, b) && sameInside(a, b)
}

// sameInside is Same of two forms that are the same but for what their parts are.
func sameInside(a, b api.Form) bool {
	// Forms may be any: too deep for calls within calls, or with one list of parts in many places, even within itself.
	// So the pairs whose parts are left to compare stand in a list, and none comes to stand there twice.
	left := []pair{{&a, &b}}
	met := map[pair]bool{}
	for len(left) > 0 {
		p := left[len(left)-1]
		left = left[:len(left)-1]
		for i := range inside(*p.a) {
			next := pair{&p.a.Parts[i], &p.b.Parts[i]}
			if !sameAlone(*next.a, *next.b) {
				return false
			}
			if next.a != next.b && len(inside(*next.a)) > 0 && !met[next] {
				met[next] = true
				left = append(left, next)
			}
		}
	}
	return true
}

// sameAlone is Same, but that of parts only their number is asked.
func sameAlone(a, b api.Form) bool {
	if a.Kind != b.Kind || len(inside(a)) != len(inside(b)) {
		return false
	}
	switch a.Kind {
	case api.Number:
		return a.Size == b.Size
	case api.Opaque, api.List:
		return a.Size == b.Size && a.Lo == b.Lo && a.Hi == b.Hi && a.Step == b.Step
	case api.Rest:
		return a.Lo == b.Lo && a.Hi == b.Hi
	case api.Fixed:
		return a.Lo == b.Lo
	}
	return true
}
