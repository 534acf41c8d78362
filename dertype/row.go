package dertype

// row is what a tag asks of its bytes.
type row struct {
	may        func(b []byte) bool // may these be its bytes?
	yearDigits int                 // of a time's year; 0 of a tag that is no time's
}

// rows are those of all tags that there are.
func rows() map[int]row {
	text := row{may: isAny}
	return map[int]row{
		1:  {may: isBoolean},
		2:  {may: isNumber}, // integer
		3:  {may: isBits},
		4:  {may: isAny}, // octet string
		5:  {may: isNull},
		6:  {may: isIdentifier},
		10: {may: isNumber}, // enumerated
		12: text,
		18: text,
		19: text,
		20: text,
		22: text,
		23: timeRow(2),
		24: timeRow(4),
		26: text,
		28: text,
		30: text,
	}
}

// timeRow is a time's, whose year has so many digits.
func timeRow(yearDigits int) row {
	may := func(b []byte) bool {
		_, is := readTime(yearDigits, b)
		return is
	}
	return row{may, yearDigits}
}

func isAny([]byte) bool { return true }

func isNull(b []byte) bool { return len(b) == 0 }

func isBoolean(b []byte) bool {
	return len(b) == 1 && (b[0] == 0 || b[0] == 255)
}

// isNumber asks whether bytes are a number's, in two's complement, and no more than it needs.
func isNumber(b []byte) bool {
	if len(b) < 2 {
		return len(b) == 1
	}
	switch b[0] {
	case 0:
		return b[1] >= 128 // the 0 says that it isn't below 0
	case 255:
		return b[1] < 128 // the 255 says that it is
	}
	return true
}

// isBits asks whether bytes are how many bits of the last one aren't used, and a bit string's.
func isBits(b []byte) bool {
	if len(b) == 0 || b[0] > 7 {
		return false
	}
	unused := b[0]
	if len(b) == 1 {
		return unused == 0
	}
	last := b[len(b)-1]
	return last&(1<<unused-1) == 0
}
