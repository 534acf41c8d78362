package dertype

// Where a time's parts stand.
const (
	atYear = iota
	atMonth
	atDay
	atHour
	atMinute
	atSecond
	parts // how many there are
)

// partDigits is how many digits each part has, but the year.
const partDigits = 2

// readTime is what a time's bytes tell, whose year has so many digits; false if they are none's.
func readTime(yearDigits int, b []byte) ([parts]int, bool) {
	last := yearDigits + partDigits*(parts-1)
	if len(b) != last+1 || b[last] != 'Z' {
		return [parts]int{}, false
	}
	var moment [parts]int
	begin, end := 0, yearDigits
	for i := range moment {
		x, is := decimal(b[begin:end])
		if !is {
			return [parts]int{}, false
		}
		moment[i] = x
		begin, end = end, end+partDigits
	}
	if yearDigits == 2 {
		moment[atYear] = wholeYear(moment[atYear])
	}
	if !isMoment(moment) {
		return [parts]int{}, false
	}
	return moment, true
}

// decimal is the number that digits tell; false if one of them is none.
func decimal(digits []byte) (int, bool) {
	x := 0
	for _, d := range digits {
		if d < '0' || d > '9' {
			return 0, false
		}
		x = 10*x + int(d-'0')
	}
	return x, true
}

// wholeYear is the year that two digits mean.
func wholeYear(digits int) int {
	if digits >= 50 {
		return 1900 + digits
	}
	return 2000 + digits
}

// isMoment asks whether there is such a time; no part is below 0.
func isMoment(t [parts]int) bool {
	if t[atMonth] < 1 || t[atMonth] > 12 {
		return false
	}
	if t[atDay] < 1 || t[atDay] > daysOf(t[atYear], t[atMonth]) {
		return false
	}
	return t[atHour] <= 23 && t[atMinute] <= 59 && t[atSecond] <= 59
}

// daysOf is how many days a month has.
func daysOf(year, month int) int {
	switch month {
	case 2:
		if isLeap(year) {
			return 29
		}
		return 28
	case 4, 6, 9, 11:
		return 30
	}
	return 31
}

// isLeap asks whether a year has 366 days.
func isLeap(year int) bool {
	return year%4 == 0 && year%100 != 0 || year%400 == 0
}
