package value

import (
	"math"

	"passepartout/api"
)

// level is a value whose list is being counted: which one of it comes next, and the count so far.
type level struct {
	v     *api.Value
	next  int
	count int
}

// underWay is the count of a value that is being counted still.
const underWay = 0

// Count is how many values there are in one, with itself. Where no int tells that (they are too many, or a value holds itself and there is no end of them) it is the greatest int.
func Count(v api.Value) int {
	// Values may be any: too deep for calls within calls, or with one list in many places, even within itself.
	// So the values on the way down stand in a list, and what each one counted is kept.
	down := []level{{v: &v, count: 1}}
	known := map[*api.Value]int{}
	for {
		top := &down[len(down)-1]
		if top.next == len(top.v.L) {
			if len(down) == 1 {
				return top.count
			}
			known[top.v] = top.count
			down = down[:len(down)-1]
			above := &down[len(down)-1]
			above.count = plus(above.count, top.count)
			continue
		}
		in := &top.v.L[top.next]
		top.next++
		if len(in.L) == 0 {
			top.count = plus(top.count, 1)
			continue
		}
		count, met := known[in]
		if !met {
			known[in] = underWay
			down = append(down, level{v: in, count: 1})
			continue
		}
		if count == underWay {
			return math.MaxInt
		}
		top.count = plus(top.count, count)
	}
}

// plus is the sum of two counts, or the greatest int where it would be greater.
func plus(a, b int) int {
	if a > math.MaxInt-b {
		return math.MaxInt
	}
	return a + b
}
