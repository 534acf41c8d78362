package dertype_test

import (
	"slices"
	"testing"

	"passepartout/api"
	"passepartout/dertype"
)

// P10.1: every tag, of no bytes, nil and not, also where some lie behind their length.
func TestCheckNoBytes(t *testing.T) {
	may := append([]int{5}, anyTags...)
	for _, tag := range tags() {
		want := api.ErrDer
		if slices.Contains(may, tag) {
			want = api.OK
		} else if !thereIs(tag) {
			want = api.ErrArg
		}
		for _, b := range [][]byte{nil, {}, make([]byte, 0, 9), []byte{0}[:0], []byte{255, 5}[:0], []byte("000101000000Z")[:0]} {
			if e := dertype.Check(tag, b); e != want {
				t.Errorf("Check(%d) of no bytes: %v; want %v", tag, e, want)
			}
		}
	}
}

// P10.1: every tag, of every one byte.
func TestCheckEveryByte(t *testing.T) {
	for _, tag := range tags() {
		count := 0
		for x := range 256 {
			b := []byte{byte(x)}
			want := wanted(tag, b)
			checks(t, tag, b, want)
			if want == api.OK {
				count++
			}
		}
		if tag >= 0 && tag < 31 && count != [31]int{1: 2, 2: 256, 3: 1, 4: 256, 6: 128, 10: 256, 12: 256, 18: 256, 19: 256, 20: 256, 22: 256, 26: 256, 28: 256, 30: 256}[tag] {
			t.Errorf("the test's own words are wrong of the tag %d", tag)
		}
	}
}

// P10.1: every tag, of every two bytes.
func TestCheckEveryTwo(t *testing.T) {
	for _, tag := range tags() {
		for first := range 256 {
			for second := range 256 {
				b := []byte{byte(first), byte(second)}
				if e := dertype.Check(tag, b); e != wanted(tag, b) {
					t.Errorf("Check(%d, %v): %v", tag, b, e)
				}
			}
		}
	}
}

// P10.1: a boolean has one byte, and a null none.
func TestCheckBooleanAndNull(t *testing.T) {
	checks(t, 1, []byte{0}, api.OK)
	checks(t, 1, []byte{255}, api.OK)
	for _, b := range [][]byte{{}, {1}, {127}, {128}, {254}, {0, 0}, {255, 255}, {0, 255}, {255, 0, 0}} {
		checks(t, 1, b, api.ErrDer)
	}
	checks(t, 5, nil, api.OK)
	for _, b := range [][]byte{{0}, {5}, {255}, {0, 0}, make([]byte, 100)} {
		checks(t, 5, b, api.ErrDer)
	}
}

// P10.1: texts and octet strings may be any bytes, of any length.
func TestCheckTexts(t *testing.T) {
	every := make([]byte, 256)
	for i := range every {
		every[i] = byte(i)
	}
	for _, tag := range anyTags {
		for _, b := range [][]byte{nil, {0}, {255}, {128, 128}, every, []byte("text"), []byte("\xed\xa0\x80"), {216, 0}, make([]byte, 3), make([]byte, 1<<17)} {
			checks(t, tag, b, api.OK)
		}
	}
}

// P10.1: of a tag that there isn't, whatever the bytes are, and also where they may be of no tag at all.
func TestCheckNoTag(t *testing.T) {
	for _, tag := range tags() {
		if thereIs(tag) {
			continue
		}
		for _, b := range [][]byte{nil, {0}, {5}, {255}, {0, 0}, {255, 255}, []byte("260228120000Z"), []byte("20260228120000Z"), make([]byte, 1000)} {
			checks(t, tag, b, api.ErrArg)
		}
	}
}

// P10.1: bytes that are right of one tag, asked of every other one.
func TestCheckOtherTags(t *testing.T) {
	all := [][]byte{{0}, {255}, {5}, {128}, {0, 128}, {255, 127}, {0, 0}, {7, 128}, {42, 134, 72, 134, 247, 13}, {42, 128, 1}, []byte("260228120000Z"), []byte("20260228120000Z"), []byte("Z"), make([]byte, 13), make([]byte, 15)}
	for _, tag := range tags() {
		for _, b := range all {
			checks(t, tag, b, wanted(tag, b))
		}
	}
}
