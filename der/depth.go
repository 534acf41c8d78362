package der

import (
	"math"

	"passepartout/api"
)

// memory is where a list lies; of all empty ones it is the same.
type memory struct {
	first  *api.Node
	length int
}

func memoryOf(l []api.Node) memory {
	if len(l) == 0 {
		return memory{}
	}
	return memory{&l[0], len(l)}
}

// level is a list of things on the way down: which one comes next, and the greatest depth of those ahead.
type level struct {
	l     []api.Node
	next  int
	depth int
}

// underWay is the depth of a list that is on the way down still.
const underWay = -1

// Depth is how deep a thing is. Of one that holds itself, of which there is no end, it is the greatest int.
func Depth(n api.Node) int {
	// Things may be any: too deep for calls within calls, or with one list in many places, even within itself.
	// So the lists on the way down stand in a list, and each one's depth is kept.
	down := []level{{l: []api.Node{n}}}
	known := map[memory]int{}
	for {
		top := &down[len(down)-1]
		if top.next == len(top.l) {
			if len(down) == 1 {
				return top.depth
			}
			known[memoryOf(top.l)] = top.depth
			down = down[:len(down)-1]
			continue // with the one above: there this one is asked for again, and known
		}
		in := top.l[top.next].L
		depth, met := known[memoryOf(in)]
		if !met {
			known[memoryOf(in)] = underWay
			down = append(down, level{l: in})
			continue
		}
		if depth == underWay {
			return math.MaxInt
		}
		top.depth = max(top.depth, 1+depth)
		top.next++
	}
}
