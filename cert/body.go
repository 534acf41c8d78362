package cert

import (
	"slices"

	"passepartout/api"
	"passepartout/dertype"
)

// question asks for the next thing of a body.
type question struct {
	is   func(n api.Node) bool     // whether a thing is such a one
	must bool                      // whether there is no body without it
	from int                       // the version from which on it may stand
	tell func(c *Cert, n api.Node) // what it tells
}

// questions are those of a body, in their order.
func questions() []question {
	return []question{
		{is: isVersion, tell: tellVersion},
		{is: isInteger, must: true, tell: tellSerial},
		{is: isAlgorithm, must: true, tell: tellNothing},
		{is: isSequence, must: true, tell: tellNothing},
		{is: areTimes, must: true, tell: tellTimes},
		{is: isSequence, must: true, tell: tellNothing},
		{is: isKey, must: true, tell: tellBits},
		{is: isIssuerID, from: 2, tell: tellNothing},
		{is: isSubjectID, from: 2, tell: tellNothing},
		{is: hasExtensions, from: 3, tell: tellExtensions},
	}
}

// body are the parts that the things of a body tell; false, if they aren't just those of one.
func body(left []api.Node) (Cert, bool) {
	take := func(is func(api.Node) bool) (api.Node, bool) {
		if len(left) == 0 || !is(left[0]) {
			return api.Node{}, false
		}
		n := left[0]
		left = left[1:]
		return n, true
	}
	c, right := Cert{Version: 1}, true
row:
	for _, q := range questions() {
		n, stands := take(q.is)
		switch {
		case stands && c.Version >= q.from:
			q.tell(&c, n)
		case stands, q.must:
			right = false
			break row
		}
	}
	if !right || len(left) > 0 {
		return Cert{}, false
	}
	return c, true
}

func tellNothing(c *Cert, n api.Node) {}

func tellVersion(c *Cert, n api.Node) {
	number, _ := dertype.Number(n.L[0].B)
	c.Version = 1 + int(number)
}

func tellSerial(c *Cert, n api.Node) { c.Serial = slices.Clone(n.B) }

func tellTimes(c *Cert, n api.Node) {
	c.Before, _ = dertype.Time(n.L[0].Tag, n.L[0].B)
	c.After, _ = dertype.Time(n.L[1].Tag, n.L[1].B)
}

func tellBits(c *Cert, n api.Node) {
	b, unused, _ := dertype.Bits(n.L[1].B)
	c.Bits = 8*len(b) - unused
}

func tellExtensions(c *Cert, n api.Node) { c.Exts = len(n.L[0].L) }
