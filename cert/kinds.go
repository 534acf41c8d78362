package cert

import (
	"passepartout/api"
	"passepartout/dertype"
)

// The tags of the class 0 that are asked for.
const (
	integer    = 2
	bitString  = 3
	identifier = 6
	sequence   = 16
	shortTime  = 23
	longTime   = 24
)

// The tags of the class 2 that are.
const (
	version    = 0
	issuerID   = 1
	subjectID  = 2
	extensions = 3
)

// isTagged asks whether a right thing is of the class 0 and such a tag; that one tells whether it is made of others.
func isTagged(n api.Node, tag int) bool { return n.Class == api.Universal && n.Tag == tag }

func isInteger(n api.Node) bool    { return isTagged(n, integer) }
func isBits(n api.Node) bool       { return isTagged(n, bitString) }
func isIdentifier(n api.Node) bool { return isTagged(n, identifier) }
func isSequence(n api.Node) bool   { return isTagged(n, sequence) }
func isTime(n api.Node) bool       { return isTagged(n, shortTime) || isTagged(n, longTime) }

// isContext asks whether a thing is of the class 2, such a tag, and made of others or not.
func isContext(n api.Node, tag int, made bool) bool {
	return n.Class == api.Context && n.Tag == tag && n.Made == made
}

// isRow asks whether a thing is a sequence of just such things.
func isRow(n api.Node, such ...func(api.Node) bool) bool {
	if !isSequence(n) || len(n.L) != len(such) {
		return false
	}
	for i, is := range such {
		if !is(n.L[i]) {
			return false
		}
	}
	return true
}

func isAny(n api.Node) bool { return true }

func isAlgorithm(n api.Node) bool {
	return isRow(n, isIdentifier) || isRow(n, isIdentifier, isAny)
}

func areTimes(n api.Node) bool { return isRow(n, isTime, isTime) }

func isKey(n api.Node) bool { return isRow(n, isAlgorithm, isBits) }

// isSignature asks for a bit string all of whose bits are used.
func isSignature(n api.Node) bool {
	if !isBits(n) {
		return false
	}
	_, unused, _ := dertype.Bits(n.B)
	return unused == 0
}

// isVersion asks for the number of a version above the first one.
func isVersion(n api.Node) bool {
	if !isContext(n, version, true) || len(n.L) != 1 || !isInteger(n.L[0]) {
		return false
	}
	number, _ := dertype.Number(n.L[0].B)
	return number == 1 || number == 2
}

func isIssuerID(n api.Node) bool  { return isContext(n, issuerID, false) }
func isSubjectID(n api.Node) bool { return isContext(n, subjectID, false) }

func hasExtensions(n api.Node) bool {
	return isContext(n, extensions, true) && len(n.L) == 1 && isSequence(n.L[0])
}
