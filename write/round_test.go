package write_test

import (
	"bytes"
	"slices"
	"testing"

	"passepartout/api"
	"passepartout/layout"
	"passepartout/read"
	"passepartout/value"
	"passepartout/write"
)

// readBack asks that what is read of bytes, if anything, is written as those bytes; and tells whether there was.
func readBack(t *testing.T, f api.Form, b []byte) bool {
	t.Helper()
	v, end, e := read.Read(f, b, 0)
	if e != api.OK {
		return false
	}
	w, e := write.Write(f, v)
	if e != api.OK || !bytes.Equal(w, b) || end != len(w) || value.Size(f, v) != len(w) {
		t.Fatalf("%v of %v, read of %v, is written as %v, %v", v, f, b, w, e)
	}
	return true
}

// written asks that what is written of a value is read as it was, and answers those bytes.
func written(t *testing.T, f api.Form, v api.Value) []byte {
	t.Helper()
	b, e := write.Write(f, v)
	if e != api.OK || len(b) != value.Size(f, v) {
		t.Fatalf("%v of %v is written as %v, %v; size %d", v, f, b, e, value.Size(f, v))
	}
	for _, base := range []int{0, 1000} {
		back, end, e := read.Read(f, b, base)
		if e != api.OK || end != base+len(b) || !equal(back, v) || !value.Same(back, v) {
			t.Fatalf("%v of %v, written as %v, is read as %v, %d, %v", v, f, b, back, end, e)
		}
	}
	return b
}

// P7.3: what is written is read as it was; with a byte less, one more, or another one, it is another value or none.
func TestWhatIsWrittenIsRead(t *testing.T) {
	next := chance(1)
	for _, c := range fitting(t, 2) {
		b := written(t, c.f, c.v)
		longer := append(slices.Clip(b), byte(next(4)))
		if readBack(t, c.f, longer) && !layout.Open(c.f) {
			t.Fatalf("%v of %v is read of %v, too", c.v, c.f, longer)
		}
		for n := range b {
			if readBack(t, c.f, b[:n]) && !layout.Open(c.f) {
				t.Fatalf("%v of %v is read of %v, too", c.v, c.f, b[:n])
			}
			for _, x := range []byte{0, 1, 2, 3, b[n] - 1, b[n] + 1} {
				other := slices.Clone(b)
				other[n] = x
				if readBack(t, c.f, other) && x != b[n] {
					if v, _, _ := read.Read(c.f, other, 0); equal(v, c.v) {
						t.Fatalf("%v of %v has two rows of bytes: %v, %v", v, c.f, b, other)
					}
				}
			}
		}
	}
}

// P7.3: what is read of all short rows of small bytes is written as those bytes.
func TestWhatIsReadIsWritten(t *testing.T) {
	const longest, below = 6, 4
	for _, f := range rightForms() {
		found := 0
		var grow func(b []byte)
		grow = func(b []byte) {
			if readBack(t, f, b) {
				found++
			}
			if len(b) == longest {
				return
			}
			for x := range byte(below) {
				grow(append(slices.Clip(b), x))
			}
		}
		grow(nil)
		if found == 0 && layout.Least(f) <= longest {
			t.Errorf("nothing is read by %v", f)
		}
	}
}

// P7.3: of a form each value has one row of bytes: other values have others, and what Vary makes another is written otherwise.
func TestOneRowOfBytes(t *testing.T) {
	for _, f := range rightForms() {
		rows := map[string]api.Value{}
		for _, v := range values() {
			if value.Fits(f, v) != api.OK {
				continue
			}
			b := string(written(t, f, v))
			if other, met := rows[b]; met && !equal(other, v) {
				t.Fatalf("%v and %v of %v are both written as %v", v, other, f, []byte(b))
			}
			rows[b] = v
			for _, path := range paths(v) {
				w, e := write.Vary(v, path, value.Number(1))
				if e == api.OK && value.Fits(f, w) == api.OK && (string(written(t, f, w)) == b) != equal(v, w) {
					t.Fatalf("%v and %v of %v", v, w, f)
				}
			}
		}
	}
}

// P7.3: empty lists that are nil and that are not are written alike.
func TestEmptyListsAreAlike(t *testing.T) {
	for _, c := range fitting(t, 6) {
		plain := written(t, c.f, c.v)
		if b, e := write.Write(c.f, roomy(c.v)); e != api.OK || !bytes.Equal(b, plain) {
			t.Fatalf("%v of %v: %v, %v; want %v", c.v, c.f, b, e, plain)
		}
	}
	for _, f := range []api.Form{layout.Row(), layout.Fixed(0), layout.Rest(0, 9), layout.Opaque(2, 0, 9), layout.List(3, 0, 9, 1, layout.Number(1))} {
		want := make([]byte, f.Size)
		for _, v := range []api.Value{{}, {B: []byte{}}, {L: []api.Value{}}, {B: []byte{}, L: []api.Value{}}, value.Number(0), value.Bytes(), value.List()} {
			writes(t, "an empty value", f, v, want)
		}
	}
}

// P7.3: a form as messages have them, with all bytes of it cut and changed.
func TestALongForm(t *testing.T) {
	item := layout.Row(layout.Number(2), layout.Opaque(2, 0, 65535))
	f := layout.Row(layout.Number(2), layout.Fixed(4), layout.Opaque(1, 0, 4), layout.List(2, 2, 65534, 2, layout.Number(2)), layout.Opaque(1, 1, 9), layout.List(2, 8, 65535, 1, item), layout.Rest(0, 3))
	v := value.List(value.Number(0x303), value.Bytes(1, 2, 3, 4), value.Bytes(9, 8), value.List(value.Number(0x1301), value.Number(0x1302)), value.Bytes(0),
		value.List(value.List(value.Number(43), value.Bytes(2, 3, 4)), value.List(value.Number(10), value.Bytes(5, 6, 7))), value.Bytes(0xf1, 0xf2))
	b := some(3, 3, 1, 2, 3, 4, 2, 9, 8, 0, 4, 19, 1, 19, 2, 1, 0, 0, 14, 0, 43, 0, 3, 2, 3, 4, 0, 10, 0, 3, 5, 6, 7, 0xf1, 0xf2)
	writes(t, "a long form", f, v, b)
	if !bytes.Equal(written(t, f, v), b) || !readBack(t, f, b) {
		t.Error("it isn't read")
	}
	for i := range b {
		readBack(t, f, b[:i])
		for _, x := range []byte{0, 1, 2, 3, 4, 5, 7, 8, 13, 14, 15, 254, 255} {
			other := slices.Clone(b)
			other[i] = x
			readBack(t, f, other)
		}
	}
}
