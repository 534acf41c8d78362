package codes_test

import (
	"iter"
	"slices"
	"testing"

	"passepartout/codes"
)

// P8.1: what All tells, in order and in number, asked for several times.
func TestAll(t *testing.T) {
	for range 3 {
		for kind, want := range listed(t) {
			all := codes.All(kind)
			tells(t, "All", all, want)
			tells(t, "All, ranged over a second time", all, want)
			rising := slices.IsSortedFunc(told(all), func(x, y one) int { return x.code - y.code })
			if !rising {
				t.Errorf("All(%d) doesn't rise", kind)
			}
		}
	}
}

// P8.1: of other kinds it tells nothing, and is never nil.
func TestAllOfOtherKinds(t *testing.T) {
	for _, kind := range otherKinds() {
		all := codes.All(kind)
		tells(t, "All of another kind", all, nil)
		tells(t, "All of another kind, ranged over a second time", all, nil)
	}
}

// leaves goes through a function to range over, leaves it behind the code of that number, and asks what was told till then.
func leaves(t *testing.T, what string, all iter.Seq2[int, string], behind int, want []one) {
	t.Helper()
	var gone []one
	for code, name := range all {
		gone = append(gone, one{code, name})
		if len(gone) > behind {
			break
		}
	}
	if !slices.Equal(gone, want[:behind+1]) {
		t.Errorf("%s, left behind %d: %v; want %v", what, behind, gone, want[:behind+1])
	}
}

// P8.1: a range that is left early leaves nothing behind: all is told again, by this answer and by others.
func TestAllLeftEarly(t *testing.T) {
	for kind, want := range listed(t) {
		all := codes.All(kind)
		for behind := range want {
			leaves(t, "All", all, behind, want)
			leaves(t, "All, anew", codes.All(kind), behind, want)
			tells(t, "All, left early", all, want)
			tells(t, "All anew, left early", codes.All(kind), want)
		}
	}
}

// P8.1: who says that it is enough is told nothing more.
func TestAllStops(t *testing.T) {
	for kind, want := range listed(t) {
		for enough := range want {
			count := 0
			codes.All(kind)(func(int, string) bool {
				count++
				return count <= enough
			})
			if count != enough+1 {
				t.Errorf("All(%d) told %d; enough were %d", kind, count, enough+1)
			}
		}
	}
}

// P8.1: a range whose body panics, or leaves its function, leaves nothing behind either.
func TestAllLeftByPanic(t *testing.T) {
	for kind, want := range listed(t) {
		all := codes.All(kind)
		func() {
			defer func() {
				if recover() != "enough" {
					t.Error("the body's panic isn't told")
				}
			}()
			for range all {
				panic("enough")
			}
		}()
		tells(t, "All, left by a panic", all, want)
		first := func() int {
			for code := range all {
				return code
			}
			return -1
		}()
		if first != want[0].code {
			t.Errorf("All(%d), left by a return: %d", kind, first)
		}
		tells(t, "All, left by a return", all, want)
	}
}

// P8.1: two ranges, one within the other, each tell all: of one answer, of two of one kind, and of two kinds.
func TestAllWithinAll(t *testing.T) {
	kinds := listed(t)
	for kind, want := range kinds {
		all := codes.All(kind)
		var outer []one
		for code, name := range all {
			outer = append(outer, one{code, name})
			tells(t, "All within itself", all, want)
			for other, inner := range kinds {
				tells(t, "All within All", codes.All(other), inner)
			}
			leaves(t, "All within itself", all, len(outer)-1, want)
			hasName(t, kind, code, name)
			hasCode(t, kind, name, code)
		}
		if !slices.Equal(outer, want) {
			t.Errorf("All(%d) around others: %v; want %v", kind, outer, want)
		}
	}
}

// P8.1: two ranges that are gone through by turns, of one answer, are apart.
func TestAllByTurns(t *testing.T) {
	for kind, want := range listed(t) {
		all := codes.All(kind)
		first, stopFirst := iter.Pull2(all)
		second, stopSecond := iter.Pull2(all)
		first() // one ahead
		for i, c := range want {
			if code, name, ok := second(); !ok || code != c.code || name != c.name {
				t.Errorf("the second, %d: %d %q %t", i, code, name, ok)
			}
			code, name, ok := first()
			if last := i == len(want)-1; ok == last || !last && (one{code, name} != want[i+1]) {
				t.Errorf("the first, %d: %d %q %t", i, code, name, ok)
			}
		}
		stopFirst()
		stopSecond()
	}
}

// Rule 4: what was answered is the asker's, and what the program keeps isn't changed by it.
func TestAnswersAreApart(t *testing.T) {
	for kind, want := range listed(t) {
		gone := told(codes.All(kind))
		for i := range gone {
			gone[i] = one{-1, "spoilt"}
		}
		tells(t, "All, behind an answer that was changed", codes.All(kind), want)
	}
}
