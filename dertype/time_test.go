package dertype_test

import (
	"fmt"
	"math"
	"strings"
	"testing"

	"passepartout/api"
)

// text is a time's, of a tag; of its year the last digits alone, where it has no room for more.
func text(tag int, m [6]int) string {
	if tag == 23 {
		return fmt.Sprintf("%02d%02d%02d%02d%02d%02dZ", m[0]%100, m[1], m[2], m[3], m[4], m[5])
	}
	return fmt.Sprintf("%04d%02d%02d%02d%02d%02dZ", m[0], m[1], m[2], m[3], m[4], m[5])
}

// both asks both tags of a time, whose year is from 1950 to 2049, that there is or isn't.
func both(t *testing.T, m [6]int, is bool) {
	t.Helper()
	for _, tag := range []int{23, 24} {
		told(t, tag, m, is)
	}
}

// told asks a tag of a time that there is or isn't.
func told(t *testing.T, tag int, m [6]int, is bool) {
	t.Helper()
	if is {
		times(t, tag, text(tag, m), m, api.OK)
	} else {
		times(t, tag, text(tag, m), [6]int{}, api.ErrDer)
	}
}

// P10.2: the parts stand in their order.
func TestTime(t *testing.T) {
	times(t, 23, "260228123456Z", [6]int{2026, 2, 28, 12, 34, 56}, api.OK)
	times(t, 24, "20260228123456Z", [6]int{2026, 2, 28, 12, 34, 56}, api.OK)
	times(t, 24, "98761031230159Z", [6]int{9876, 10, 31, 23, 1, 59}, api.OK)
	times(t, 23, "000101000000Z", [6]int{2000, 1, 1, 0, 0, 0}, api.OK)
	times(t, 24, "00000101000000Z", [6]int{0, 1, 1, 0, 0, 0}, api.OK)
	times(t, 24, "99991231235959Z", [6]int{9999, 12, 31, 23, 59, 59}, api.OK)
}

// P10.2: every year of two digits, and of four.
func TestTimeYears(t *testing.T) {
	times(t, 23, "490101000000Z", [6]int{2049, 1, 1, 0, 0, 0}, api.OK)
	times(t, 23, "500101000000Z", [6]int{1950, 1, 1, 0, 0, 0}, api.OK)
	times(t, 23, "991231235959Z", [6]int{1999, 12, 31, 23, 59, 59}, api.OK)
	for year := 1950; year < 2050; year++ {
		told(t, 23, [6]int{year, 6, 7, 8, 9, 10}, true)
	}
	for year := range 10000 {
		told(t, 24, [6]int{year, 6, 7, 8, 9, 10}, true)
	}
}

// P10.2: every month and day that two digits tell, of years of each kind.
func TestTimeDays(t *testing.T) {
	for _, year := range []int{1996, 1999, 2000, 2001, 2004, 2026} {
		days := []int{0, 31, 28, 31, 30, 31, 30, 31, 31, 30, 31, 30, 31}
		if year%4 == 0 { // 2000, too
			days[2] = 29
		}
		for month := range 100 {
			for day := range 100 {
				is := month >= 1 && month <= 12 && day >= 1 && day <= days[month]
				both(t, [6]int{year, month, day, 1, 2, 3}, is)
			}
		}
	}
}

// P10.2: the 29th and the 30th of February of every year.
func TestTimeLeapYears(t *testing.T) {
	for year, is := range map[int]bool{0: true, 1: false, 4: true, 100: false, 200: false, 400: true, 1600: true, 1900: false, 1999: false, 2000: true, 2004: true, 2049: false, 2050: false, 2100: false, 2400: true, 9996: true, 9900: false} {
		told(t, 24, [6]int{year, 2, 28, 0, 0, 0}, true)
		told(t, 24, [6]int{year, 2, 29, 0, 0, 0}, is)
		told(t, 24, [6]int{year, 2, 30, 0, 0, 0}, false)
	}
	for year, is := range map[int]bool{1950: false, 1952: true, 1996: true, 1999: false, 2000: true, 2001: false, 2004: true, 2048: true, 2049: false} {
		told(t, 23, [6]int{year, 2, 28, 0, 0, 0}, true)
		told(t, 23, [6]int{year, 2, 29, 0, 0, 0}, is)
		told(t, 23, [6]int{year, 2, 30, 0, 0, 0}, false)
	}
	for year := range 10000 {
		m := [6]int{year, 2, 29, 23, 59, 59}
		_, is := moment(24, []byte(text(24, m)))
		told(t, 24, m, is)
	}
}

// P10.2: every hour, minute and second that two digits tell.
func TestTimeOfDay(t *testing.T) {
	for x := range 100 {
		both(t, [6]int{2026, 1, 31, x, 0, 0}, x <= 23)
		both(t, [6]int{2026, 1, 31, 23, x, 0}, x <= 59)
		both(t, [6]int{2026, 1, 31, 23, 59, x}, x <= 59)
	}
}

// P10.2: each byte as every other one.
func TestTimeEveryByte(t *testing.T) {
	for tag, right := range map[int]string{23: "221111111111Z", 24: "20221111111111Z"} {
		for at := range right {
			for x := range 256 {
				b := []byte(right)
				b[at] = byte(x)
				want, e := wantedTime(tag, b)
				times(t, tag, string(b), want, e)
				if digit := x >= '0' && x <= '9'; !digit && at < len(right)-1 && e == api.OK || x != 'Z' && at == len(right)-1 && e == api.OK {
					t.Fatalf("the test's own words are wrong of %q", b)
				}
			}
		}
	}
}

// P10.2: one byte less, one more, many more, and the other tag's length.
func TestTimeLengths(t *testing.T) {
	for tag, right := range map[int]string{23: "111111111111Z", 24: "11111111111111Z"} {
		for n := range 40 {
			for _, b := range []string{strings.Repeat("1", n), strings.Repeat("1", n) + "Z", strings.Repeat("1", n) + "ZZ", strings.Repeat("1", n) + "Z\x00"} {
				want, e := wantedTime(tag, []byte(b))
				times(t, tag, b, want, e)
				if (b == right) != (e == api.OK) {
					t.Fatalf("the test's own words are wrong of %q", b)
				}
			}
		}
		for _, b := range []string{"", "Z", right[1:], right[:len(right)-1], "1" + right, right + "1", right + "Z", right + "\x00", " " + right, right[:len(right)-1] + "z", right[:len(right)-1] + "+0000", right[:len(right)-1] + ".5Z", right[:len(right)-3] + "Z", right[:len(right)-1] + "\x00", right + strings.Repeat("1", 1000)} {
			times(t, tag, b, [6]int{}, api.ErrDer)
		}
	}
	times(t, 23, "20260228120000Z", [6]int{}, api.ErrDer)
	times(t, 24, "260228120000Z", [6]int{}, api.ErrDer)
}

// P10.2: two things wrong at a time.
func TestTimeTwoWrong(t *testing.T) {
	for _, b := range []string{"261301240000Z", "260000000000Z", "26a301000000Z", "260229246060z", "-10101000000Z", "2601 1000000Z", "+60101000000Z", "26010100000-Z"} {
		times(t, 23, b, [6]int{}, api.ErrDer)
		times(t, 24, "20"+b, [6]int{}, api.ErrDer)
	}
}

// P10.2: a tag that is no time's, of bytes that are a time's, or its own, or nobody's.
func TestTimeNoTag(t *testing.T) {
	for _, tag := range timeless() {
		for _, b := range []string{"", "\x00", "\xff", "5", "260228120000Z", "20260228120000Z", "260229120000Z", "20261301000000Z"} {
			times(t, tag, b, [6]int{}, api.ErrArg)
		}
	}
	for _, tag := range []int{23 + 1<<32, 24 + 1<<32, 23 + math.MinInt, 24 + math.MinInt, -23, -24, 23 + 256, 24 + 32} {
		times(t, tag, "260228120000Z", [6]int{}, api.ErrArg)
		times(t, tag, "20260228120000Z", [6]int{}, api.ErrArg)
	}
}
