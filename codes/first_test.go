package codes

import (
	"slices"
	"sync"
	"testing"
)

// forget brings back what stands ahead of the first call.
func forget() {
	once, lists = sync.Once{}, [3][]named{}
}

// answers is what all calls tell of one code.
type answers struct {
	name          string
	named, listed bool
	code          int
	all           []named
	grease        bool
}

// ask asks everything, with another call ahead by the asker's number.
func ask(asker int) answers {
	var a answers
	name := func() { a.name, a.named = Name(Handshakes, 24) }
	code := func() { a.code, a.listed = Code(Extensions, "key_share") }
	all := func() {
		for code, name := range All(Records) {
			a.all = append(a.all, named{code, name})
		}
	}
	grease := func() { a.grease = Grease(64250) }
	calls := []func(){name, code, all, grease}
	for i := range calls {
		calls[(asker+i)%len(calls)]()
	}
	return a
}

// rightAnswers asks whether these are the document's.
func rightAnswers(a answers) bool {
	all := []named{{20, "change_cipher_spec"}, {21, "alert"}, {22, "handshake"}, {23, "application_data"}}
	return a.name == "key_update" && a.named && a.code == 51 && a.listed && slices.Equal(a.all, all) && a.grease
}

// Rule 6: many goroutines that ask at a time, from the first call on, are all answered the same, of lists that are made once.
func TestManyAskFirst(t *testing.T) {
	const askers, rounds = 8, 3000
	for round := range rounds {
		forget()
		var told [askers]answers
		var made [askers]*named
		var all sync.WaitGroup
		begin := make(chan struct{})
		for asker := range askers {
			all.Go(func() {
				<-begin
				told[asker] = ask(asker)
				made[asker] = &lists[Extensions][0]
			})
		}
		close(begin)
		all.Wait()
		for asker, a := range told {
			if !rightAnswers(a) {
				t.Fatalf("round %d, asker %d: %v", round, asker, a)
			}
			if made[asker] != made[0] {
				t.Fatalf("round %d, asker %d: the lists were made more than once", round, asker)
			}
		}
	}
}

// The lists are made by the first call of All, of whichever kind, even if nobody ranges over its answer, and by no other one.
func TestListsMadeOnce(t *testing.T) {
	for _, kind := range []int{Records, Handshakes, Extensions, -1, 3} {
		forget()
		All(kind)
		made := [3]*named{}
		for kind, want := range worked() {
			if !slices.Equal(lists[kind], want) {
				t.Fatalf("All(%d) made of kind %d: %v", kind, kind, lists[kind])
			}
			made[kind] = &lists[kind][0]
		}
		for asker := range 8 {
			if a := ask(asker); !rightAnswers(a) {
				t.Errorf("behind All(%d): %v", kind, a)
			}
		}
		for other := range lists {
			if &lists[other][0] != made[other] {
				t.Errorf("behind All(%d) the list of kind %d was made anew", kind, other)
			}
		}
	}
}

// worked are the codes of all kinds, by the function that works them out.
func worked() [][]named { return [][]named{records(), handshakes(), extensions()} }

// rightOnItsOwn asks every call for every code, and tells what is answered otherwise than it is worked out.
func rightOnItsOwn(t *testing.T, what string) {
	t.Helper()
	for kind, want := range worked() {
		var all []named
		for code, name := range All(kind) {
			all = append(all, named{code, name})
		}
		if !slices.Equal(all, want) {
			t.Errorf("%s: All(%d): %v", what, kind, all)
		}
		for _, c := range want {
			if name, ok := Name(kind, c.code); name != c.name || !ok {
				t.Errorf("%s: Name(%d, %d): %q, %t", what, kind, c.code, name, ok)
			}
			if code, ok := Code(kind, c.name); code != c.code || !ok {
				t.Errorf("%s: Code(%d, %q): %d, %t", what, kind, c.name, code, ok)
			}
		}
		if name, ok := Name(kind, 99); name != "" || ok {
			t.Errorf("%s: Name(%d, 99): %q, %t", what, kind, name, ok)
		}
		if code, ok := Code(kind, "spoilt"); code != 0 || ok {
			t.Errorf("%s: Code(%d, spoilt): %d, %t", what, kind, code, ok)
		}
	}
	if !Grease(2570) || Grease(99) {
		t.Errorf("%s: Grease(2570) or Grease(99)", what)
	}
}

// Rule 7: no answer hangs on what is in the lists: it is the same ahead of the once, of lists that are empty, shorter, longer, or wrong.
func TestNoAnswerHangsOnTheLists(t *testing.T) {
	defer forget()
	forget()
	for kind, want := range worked() {
		for _, c := range want {
			if name, ok := Name(kind, c.code); name != c.name || !ok {
				t.Errorf("ahead of the once: Name(%d, %d): %q, %t", kind, c.code, name, ok)
			}
			if code, ok := Code(kind, c.name); code != c.code || !ok {
				t.Errorf("ahead of the once: Code(%d, %q): %d, %t", kind, c.name, code, ok)
			}
		}
	}
	wrong := []named{{99, "spoilt"}}
	for what, kept := range map[string][3][]named{
		"empty lists":   {},
		"shorter lists": {records()[:1], handshakes()[1:], extensions()[:21]},
		"longer lists":  {append(records(), wrong...), append(wrong, handshakes()...), append(extensions(), wrong...)},
		"wrong lists":   {wrong, wrong, wrong},
		"other kinds'":  {extensions(), records(), handshakes()},
	} {
		forget()
		All(Records) // so the once is done, and doesn't mend them
		lists = kept
		rightOnItsOwn(t, what)
	}
}

// Rule 6: many goroutines may range over one answer at a time.
func TestManyRangeOverOne(t *testing.T) {
	forget()
	answer := All(Extensions)
	var all sync.WaitGroup
	var told [8][]named
	for asker := range told {
		all.Go(func() {
			for range 200 {
				var tells []named
				for code, name := range answer {
					tells = append(tells, named{code, name})
				}
				told[asker] = tells
			}
		})
	}
	all.Wait()
	for asker, tells := range told {
		if !slices.Equal(tells, extensions()) {
			t.Errorf("asker %d: %v", asker, tells)
		}
	}
}
