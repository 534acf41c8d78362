package codes_test

import (
	"math"
	"slices"
	"strings"
	"testing"

	"passepartout/codes"
)

// farthest is how far from 0 all codes are asked.
const farthest = 70000

func TestExamples(t *testing.T) {
	hasName(t, 1, 20, "finished")
	hasCode(t, 2, "cookie", 44)
	if !codes.Grease(2570) || codes.Grease(2571) {
		t.Error("Grease(2570) or Grease(2571)")
	}
	if codes.Records != 0 || codes.Handshakes != 1 || codes.Extensions != 2 {
		t.Error("the kinds:", codes.Records, codes.Handshakes, codes.Extensions)
	}
}

// P8.1: every code of every kind, both ways.
func TestEachCode(t *testing.T) {
	kinds := listed(t)
	if len(kinds[0]) != 4 || len(kinds[1]) != 10 || len(kinds[2]) != 22 {
		t.Fatal("the test's own lists are wrong")
	}
	for kind, all := range kinds {
		for _, c := range all {
			hasName(t, kind, c.code, c.name)
			hasCode(t, kind, c.name, c.code)
		}
	}
}

// P8.1: all codes that have no name, those next to the lists' among them.
func TestCodesWithoutName(t *testing.T) {
	for kind, all := range listed(t) {
		for code := -farthest; code <= farthest; code++ {
			if !slices.ContainsFunc(all, func(c one) bool { return c.code == code }) {
				hasNoName(t, kind, code)
			}
		}
		for code := range 300 {
			for _, other := range otherCodes(code) {
				if other < -farthest || other > farthest {
					hasNoName(t, kind, other)
				}
			}
		}
		for _, code := range []int{math.MinInt, math.MinInt + 1, math.MaxInt - 1, math.MaxInt} {
			hasNoName(t, kind, code)
		}
	}
}

// P8.1: a code has the name of its own kind, or none, whatever it is in another one.
func TestCodesOfOtherKinds(t *testing.T) {
	hasName(t, codes.Records, 20, "change_cipher_spec")
	hasName(t, codes.Handshakes, 20, "finished")
	hasName(t, codes.Extensions, 20, "server_certificate_type")
	hasNoName(t, codes.Records, 24)
	hasNoName(t, codes.Extensions, 24)
	hasNoName(t, codes.Handshakes, 21)
	hasNoName(t, codes.Handshakes, 0)
	hasNoName(t, codes.Records, 1)
	hasNoName(t, codes.Extensions, 2)
	hasNoName(t, codes.Handshakes, 51)
}

// P8.1: no name stands in two kinds, so in another kind than its own it has no code.
func TestNamesOfOtherKinds(t *testing.T) {
	kinds := listed(t)
	for kind := range kinds {
		for other, all := range kinds {
			for _, c := range all {
				if other != kind {
					hasNoCode(t, kind, c.name)
				}
			}
		}
	}
}

// P8.1: of kinds that there aren't nothing is known: no code, no name.
func TestOtherKinds(t *testing.T) {
	kinds := listed(t)
	for _, kind := range otherKinds() {
		for _, all := range kinds {
			for _, c := range all {
				hasNoName(t, kind, c.code)
				hasNoCode(t, kind, c.name)
			}
		}
		for _, code := range []int{math.MinInt, -1, 0, 1, 2, 3, math.MaxInt} {
			hasNoName(t, kind, code)
		}
		hasNoCode(t, kind, "")
		tells(t, "All of another kind", codes.All(kind), nil)
	}
}

// spoiltNames are a name's neighbours: with a letter more, less, another one, or in capitals, and pieces of it.
func spoiltNames(name string) []string {
	names := []string{
		strings.ToUpper(name), " " + name, name + " ", name + "\n", name + "\x00", name + name,
		strings.ReplaceAll(name, "_", "-") + "-", strings.ReplaceAll(name, "_", "") + "s",
	}
	for i := range len(name) {
		before, at, behind := name[:i], name[i:i+1], name[i+1:]
		names = append(names, before, name[i+1:], before+behind, before+at+at+behind, before+"#"+behind, before+"a#"+at+behind)
		if upper := strings.ToUpper(at); upper != at {
			names = append(names, before+upper+behind)
		}
	}
	for _, letter := range "abcdefghijklmnopqrstuvwxyz_0" {
		names = append(names, name+string(letter), string(letter)+name)
	}
	return names
}

// P8.1: names that there aren't.
func TestNamesWithoutCode(t *testing.T) {
	for kind, all := range listed(t) {
		for _, c := range all {
			for _, name := range spoiltNames(c.name) {
				// Some names begin as others are.
				if !slices.ContainsFunc(all, func(c one) bool { return c.name == name }) {
					hasNoCode(t, kind, name)
				}
			}
		}
		for _, name := range []string{"", " ", "_", "\x00", "grease", "unknown", "none", "error", "0", "20", "44", "hello_request", "records", "\xff\xfe", "näme"} {
			hasNoCode(t, kind, name)
		}
		hasNoCode(t, kind, strings.Repeat("x", 1<<20))
	}
}

// P8.1: each code that All tells is found by Name, and each name by Code.
func TestAllAgainstNameAndCode(t *testing.T) {
	for kind := range 3 {
		for code, name := range codes.All(kind) {
			hasName(t, kind, code, name)
			hasCode(t, kind, name, code)
		}
	}
}

// P8.2: the sixteen codes of grease, and no other number.
func TestGrease(t *testing.T) {
	all := []int{2570, 6682, 10794, 14906, 19018, 23130, 27242, 31354, 35466, 39578, 43690, 47802, 51914, 56026, 60138, 64250}
	for code := -farthest; code <= farthest; code++ {
		if want := slices.Contains(all, code); codes.Grease(code) != want {
			t.Errorf("Grease(%d): %t; want %t", code, !want, want)
		}
	}
	for _, code := range all {
		for _, other := range otherCodes(code) {
			if codes.Grease(other) {
				t.Errorf("Grease(%d), which is more than two bytes, or below 0", other)
			}
		}
	}
	for _, code := range []int{math.MinInt, math.MinInt + 1, math.MinInt + 10, math.MaxInt - 1, math.MaxInt, -1 << 32, 1<<32 + 2570, -1<<16 + 64250} {
		if codes.Grease(code) {
			t.Errorf("Grease(%d)", code)
		}
	}
}

// P8.2: so no extension of the list is grease, and no grease has a name.
func TestNoExtensionIsGrease(t *testing.T) {
	for _, c := range listed(t)[codes.Extensions] {
		if codes.Grease(c.code) {
			t.Errorf("Grease(%d), which is %s", c.code, c.name)
		}
	}
	for code, name := range codes.All(codes.Extensions) {
		if codes.Grease(code) {
			t.Errorf("Grease(%d), which is %s", code, name)
		}
	}
	for code := range 1 << 16 {
		if codes.Grease(code) {
			hasNoName(t, codes.Extensions, code)
		}
	}
}
