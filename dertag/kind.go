package dertag

import "passepartout/api"

// mostTag is the greatest tag of the class 2: 31, which the first byte has room for, would begin a tag of more bytes.
const mostTag = 30

// thing is a tag of the class 0, and whether it is made of others.
type thing struct {
	tag  int
	made bool
}

// universal are the things that there are of the class 0.
var universal = [...]thing{
	{1, false},  // boolean
	{2, false},  // integer
	{3, false},  // bit string
	{4, false},  // octet string
	{5, false},  // null
	{6, false},  // object identifier
	{10, false}, // enumerated
	{12, false}, // 12, 18, 19, 20, 22, 26, 28 and 30 are texts
	{16, true},  // sequence
	{17, true},  // set
	{18, false},
	{19, false},
	{20, false},
	{22, false},
	{23, false}, // 23 and 24 are times
	{24, false},
	{26, false},
	{28, false},
	{30, false},
}

// Kind tells whether there is such a thing.
func Kind(class, tag int, made bool) api.Errno {
	switch class {
	case api.Universal:
		if isUniversal(thing{tag, made}) {
			return api.OK
		}
	case api.Context:
		if tag >= 0 && tag <= mostTag {
			return api.OK
		}
	}
	return api.ErrDer
}

// isUniversal asks whether there is such a thing of the class 0.
func isUniversal(asked thing) bool {
	for _, t := range universal {
		if t == asked {
			return true
		}
	}
	return false
}
