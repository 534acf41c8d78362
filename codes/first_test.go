package codes

import (
	"slices"
	"sync"
	"testing"
)

// forget brings back what stands ahead of the first call.
func forget() {
	once, lists = sync.Once{}, [3][]named{}
}

// answers is what all calls tell of one code.
type answers struct {
	name          string
	named, listed bool
	code          int
	all           []named
	grease        bool
}

// ask asks everything, with another call ahead by the asker's number.
func ask(asker int) answers {
	var a answers
	name := func() { a.name, a.named = Name(Handshakes, 24) }
	code := func() { a.code, a.listed = Code(Extensions, "key_share") }
	all := func() {
		for code, name := range All(Records) {
			a.all = append(a.all, named{code, name})
		}
	}
	grease := func() { a.grease = Grease(64250) }
	calls := []func(){name, code, all, grease}
	for i := range calls {
		calls[(asker+i)%len(calls)]()
	}
	return a
}

// rightAnswers asks whether these are the document's.
func rightAnswers(a answers) bool {
	all := []named{{20, "change_cipher_spec"}, {21, "alert"}, {22, "handshake"}, {23, "application_data"}}
	return a.name == "key_update" && a.named && a.code == 51 && a.listed && slices.Equal(a.all, all) && a.grease
}

// Rule 6: many goroutines that ask at a time, from the first call on, are all answered the same, of lists that are made once.
func TestManyAskFirst(t *testing.T) {
	const askers, rounds = 8, 3000
	for round := range rounds {
		forget()
		var told [askers]answers
		var made [askers]*named
		var all sync.WaitGroup
		begin := make(chan struct{})
		for asker := range askers {
			all.Go(func() {
				<-begin
				told[asker] = ask(asker)
				made[asker] = &lists[Extensions][0]
			})
		}
		close(begin)
		all.Wait()
		for asker, a := range told {
			if !rightAnswers(a) {
				t.Fatalf("round %d, asker %d: %v", round, asker, a)
			}
			if made[asker] != made[0] {
				t.Fatalf("round %d, asker %d: the lists were made more than once", round, asker)
			}
		}
	}
}

// The lists are made by the first call, whichever it is, and by no other one.
func TestListsMadeOnce(t *testing.T) {
	first := []func(){
		func() { Name(Records, 20) },
		func() { Name(-1, 20) },
		func() { Code(Extensions, "cookie") },
		func() { Code(3, "") },
		func() {
			for range All(Handshakes) {
				break
			}
		},
	}
	for i, call := range first {
		forget()
		call()
		made := [3]*named{}
		for kind := range lists {
			if len(lists[kind]) == 0 {
				t.Fatalf("call %d made no list of kind %d", i, kind)
			}
			made[kind] = &lists[kind][0]
		}
		for asker := range 8 {
			if a := ask(asker); !rightAnswers(a) {
				t.Errorf("behind call %d: %v", i, a)
			}
		}
		for kind := range lists {
			if &lists[kind][0] != made[kind] {
				t.Errorf("behind call %d the list of kind %d was made anew", i, kind)
			}
		}
	}
}

// Rule 6: many goroutines may range over one answer at a time.
func TestManyRangeOverOne(t *testing.T) {
	forget()
	answer := All(Extensions)
	var all sync.WaitGroup
	var told [8][]named
	for asker := range told {
		all.Go(func() {
			for range 200 {
				var tells []named
				for code, name := range answer {
					tells = append(tells, named{code, name})
				}
				told[asker] = tells
			}
		})
	}
	all.Wait()
	for asker, tells := range told {
		if !slices.Equal(tells, extensions()) {
			t.Errorf("asker %d: %v", asker, tells)
		}
	}
}
