package cert_test

import (
	"bytes"
	"fmt"
	"regexp"
	"slices"
	"strings"
	"testing"
	"time"

	"passepartout/api"
	"passepartout/cert"
	"passepartout/der"
)

// bases are those that reads are asked from.
var bases = []int{0, 1, 1 << 40}

// The words of letters of rows of things that are something together.
var (
	algorithmWord   = regexp.MustCompile(`^o.?$`)
	timesWord       = regexp.MustCompile(`^mm$`)
	keyWord         = regexp.MustCompile(`^a[bu]$`)
	sequenceWord    = regexp.MustCompile(`^[atks]$`)
	bodyWord        = regexp.MustCompile(`^(ia[atks]t[atks]k|via[atks]t[atks]k1?2?|wia[atks]t[atks]k1?2?3?)$`)
	certificateWord = regexp.MustCompile(`^[atks]ab$`)
)

// letter is what a right thing is: i an integer, o an identifier, b a bit string all of whose bits are used, u another one, m a time; a an algorithm, t times, k a key, s another sequence; v and w what tells the versions 2 and 3, 1 and 2 the two that may stand behind the key, 3 what has extensions; x is anything else.
func letter(n api.Node) string {
	switch {
	case n.Class == 2:
		return contextLetter(n)
	case n.Tag == 16:
		return sequenceLetter(n)
	case n.Tag == 3 && n.B[0] > 0:
		return "u"
	}
	names := map[int]string{2: "i", 3: "b", 6: "o", 23: "m", 24: "m"}
	if name, is := names[n.Tag]; is {
		return name
	}
	return "x"
}

func sequenceLetter(n api.Node) string {
	in := word(n.L)
	switch {
	case algorithmWord.MatchString(in):
		return "a"
	case timesWord.MatchString(in):
		return "t"
	case keyWord.MatchString(in):
		return "k"
	}
	return "s"
}

func contextLetter(n api.Node) string {
	in := word(n.L)
	switch {
	case n.Made && n.Tag == 0 && in == "i" && bytes.Equal(n.L[0].B, []byte{1}):
		return "v"
	case n.Made && n.Tag == 0 && in == "i" && bytes.Equal(n.L[0].B, []byte{2}):
		return "w"
	case !n.Made && n.Tag == 1:
		return "1"
	case !n.Made && n.Tag == 2:
		return "2"
	case n.Made && n.Tag == 3 && sequenceWord.MatchString(in):
		return "3"
	}
	return "x"
}

// word are things' letters.
func word(l []api.Node) string {
	var text strings.Builder
	for _, n := range l {
		text.WriteString(letter(n))
	}
	return text.String()
}

// moment is a right time.
func moment(n api.Node) [6]int {
	text := string(n.B)
	if n.Tag == 23 && text < "5" {
		text = "20" + text
	} else if n.Tag == 23 {
		text = "19" + text
	}
	x, e := time.Parse("20060102150405Z", text)
	if e != nil {
		panic(e)
	}
	return [6]int{x.Year(), int(x.Month()), x.Day(), x.Hour(), x.Minute(), x.Second()}
}

// wanted is what Outer is to answer.
func wanted(n api.Node) (cert.Cert, api.Errno) {
	if e := der.Check(n); e != api.OK {
		return cert.Cert{}, e
	}
	if n.Class != 0 || n.Tag != 16 || !certificateWord.MatchString(word(n.L)) || !bodyWord.MatchString(word(n.L[0].L)) {
		return cert.Cert{}, api.ErrForm
	}
	body := n.L[0].L
	c := cert.Cert{Version: 1}
	if body[0].Class == 2 {
		c.Version = 1 + int(body[0].L[0].B[0])
		body = body[1:]
	}
	c.Serial = body[0].B
	c.Before, c.After = moment(body[3].L[0]), moment(body[3].L[1])
	bits := body[5].L[1].B
	c.Bits = 8*(len(bits)-1) - int(bits[0])
	if last := body[len(body)-1]; last.Class == 2 && last.Tag == 3 {
		c.Exts = len(last.L[0].L)
	}
	return c, api.OK
}

// same asks whether two answers are.
func same(a, b cert.Cert) bool {
	return a.Version == b.Version && bytes.Equal(a.Serial, b.Serial) && a.Before == b.Before && a.After == b.After && a.Bits == b.Bits && a.Exts == b.Exts
}

// short is the beginning of what is told.
func short(x any) string {
	text := fmt.Sprint(x)
	return text[:min(len(text), 900)]
}

// answers asks Outer of a thing, and Read of its bytes, if it is right.
func answers(t *testing.T, n api.Node, want cert.Cert, wantE api.Errno) {
	t.Helper()
	c, e := cert.Outer(n)
	if e != wantE || !same(c, want) {
		t.Fatalf("Outer(%s): %s, %v; want %s, %v", short(n), short(c), e, short(want), wantE)
	}
	b, e := der.Write(n)
	if e != api.OK {
		return
	}
	if wantE == api.OK {
		reads(t, b, want, len(b), api.OK)
	} else {
		reads(t, b, cert.Cert{}, 0, wantE)
	}
}

// behind is what lies behind bytes in their memory: it would go on as a thing.
var behind = []byte{5, 0, 48, 0, 255}

// reads asks Read of bytes, from each base, with others behind them in their memory, and that none of all is changed.
func reads(t *testing.T, b []byte, want cert.Cert, at int, wantE api.Errno) {
	t.Helper()
	memory := append(slices.Clone(b), behind...)
	for _, base := range bases {
		c, where, e := cert.Read(memory[:len(b)], base)
		if e != wantE || where != base+at || !same(c, want) {
			t.Fatalf("Read(%s, %d): %s, %d, %v; want %s, %d, %v", short(b), base, short(c), where, e, short(want), base+at, wantE)
		}
	}
	if !bytes.Equal(memory[:len(b)], b) || !bytes.Equal(memory[len(b):], behind) {
		t.Fatalf("Read(%s) changed its bytes", short(b))
	}
}

// held holds both calls of a thing against the document's words.
func held(t *testing.T, n api.Node) api.Errno {
	t.Helper()
	want, e := wanted(n)
	answers(t, n, want, e)
	return e
}

// isOne and isNone ask both calls of a thing that is a certificate, or none.
func isOne(t *testing.T, n api.Node) {
	t.Helper()
	if e := held(t, n); e != api.OK {
		t.Fatalf("the test's own words are wrong of %s: %v", short(n), e)
	}
}

func isNone(t *testing.T, n api.Node) {
	t.Helper()
	if e := held(t, n); e != api.ErrForm {
		t.Fatalf("the test's own words are wrong of %s: %v", short(n), e)
	}
}

// prim is a thing of the class 0 that isn't made of others; plain is one of the class 2.
func prim(tag int, b ...byte) api.Node  { return api.Node{Tag: tag, B: b} }
func plain(tag int, b ...byte) api.Node { return api.Node{Class: 2, Tag: tag, B: b} }

// seq is a sequence, set is a set, made is a thing of the class 2 that is made of others.
func seq(l ...api.Node) api.Node { return api.Node{Tag: 16, Made: true, L: l} }
func set(l ...api.Node) api.Node { return api.Node{Tag: 17, Made: true, L: l} }
func made(tag int, l ...api.Node) api.Node {
	return api.Node{Class: 2, Tag: tag, Made: true, L: l}
}

// one is an algorithm, such are times, key is a key.
func one() api.Node { return seq(prim(6, 42, 3), prim(5)) }
func such() api.Node {
	return seq(prim(23, []byte("500101000001Z")...), prim(24, []byte("20491231235958Z")...))
}
func key() api.Node { return seq(one(), prim(3, 4, 1, 240)) }

// common are the things that each body has.
func common() []api.Node {
	return []api.Node{prim(2, 9, 8), one(), seq(set(prim(5))), such(), seq(), key()}
}

// whole is a certificate, if these are a body.
func whole(body ...api.Node) api.Node {
	return seq(seq(body...), one(), prim(3, 0, 7))
}

// ofVersion is a certificate of a version; behind its key stand more things.
func ofVersion(version int, more ...api.Node) api.Node {
	var number []api.Node
	if version > 1 {
		number = []api.Node{made(0, prim(2, byte(version-1)))}
	}
	return whole(slices.Concat(number, common(), more)...)
}

// full is a certificate in which all stands that may.
func full() api.Node {
	return ofVersion(3, plain(1, 7), plain(2), made(3, seq(seq(prim(6, 85, 29, 15), prim(4, 1)), prim(5))))
}

// ofParts is what is told of a certificate of such a version and so many extensions, that whole, common and ofVersion made.
func ofParts(version, exts int) cert.Cert {
	return cert.Cert{Version: version, Serial: []byte{9, 8}, Before: [6]int{1950, 1, 1, 0, 0, 1}, After: [6]int{2049, 12, 31, 23, 59, 58}, Bits: 12, Exts: exts}
}

// copied is an equal thing that shares no memory.
func copied(n api.Node) api.Node {
	n.B, n.L = slices.Clone(n.B), slices.Clone(n.L)
	for i := range n.L {
		n.L[i] = copied(n.L[i])
	}
	return n
}

// paths are those that lead from a thing to all in it, and itself.
func paths(n api.Node) [][]int {
	all := [][]int{nil}
	for i, in := range n.L {
		for _, path := range paths(in) {
			all = append(all, append([]int{i}, path...))
		}
	}
	return all
}

// at is the thing to which a path leads.
func at(n *api.Node, path []int) *api.Node {
	for _, i := range path {
		n = &n.L[i]
	}
	return n
}

// with is a copy in which another thing stands where the path leads to.
func with(n api.Node, path []int, other api.Node) api.Node {
	n = copied(n)
	*at(&n, path) = other
	return n
}

// withList is a copy in which the thing to which the path leads is made of others.
func withList(n api.Node, path []int, l ...api.Node) api.Node {
	n = copied(n)
	at(&n, path).L = l
	return n
}
