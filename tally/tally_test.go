package tally_test

import (
	"errors"
	"math"
	"runtime"
	"slices"
	"sync"
	"sync/atomic"
	"testing"

	"passepartout/api"
	"passepartout/tally"
)

// made is a new tally that may count so many.
func made(t *testing.T, most int) *tally.Tally {
	t.Helper()
	x, e := tally.New(most)
	if x == nil || e != api.OK {
		t.Fatalf("New(%d): %v, %v", most, x, e)
	}
	return x
}

// stands asks how many were counted, and how many more may be.
func stands(t *testing.T, what string, x *tally.Tally, count, left int) {
	t.Helper()
	if x.Count() != count || x.Left() != left {
		t.Errorf("%s: Count %d, Left %d; want %d, %d", what, x.Count(), x.Left(), count, left)
	}
}

// spends asks that so many more are counted.
func spends(t *testing.T, x *tally.Tally, n int) {
	t.Helper()
	count, left := x.Count(), x.Left()
	if e := x.Spend(n); e != api.OK {
		t.Fatalf("Spend(%d) with %d left: %v", n, left, e)
	}
	stands(t, "Spend", x, count+n, left-n)
}

// refuses asks for an error, and that Count and Left are what they were.
func refuses(t *testing.T, x *tally.Tally, n int, want api.Errno) {
	t.Helper()
	count, left := x.Count(), x.Left()
	if e := x.Spend(n); e != want {
		t.Errorf("Spend(%d) with %d left: %v; want %v", n, left, e, want)
	}
	stands(t, "Spend, refused", x, count, left)
}

// together runs work in so many goroutines that begin at the same time, and waits for all of them.
func together(n int, work func(i int)) {
	var all sync.WaitGroup
	begin := make(chan struct{})
	for i := range n {
		all.Go(func() {
			<-begin
			work(i)
		})
	}
	close(begin)
	all.Wait()
}

// inStep runs rounds in so many goroutines, which begin each round together: so their calls meet.
func inStep(workers, rounds int, work func(i, round int)) {
	var come atomic.Int64
	together(workers, func(i int) {
		for round := range rounds {
			come.Add(1)
			for come.Load() < int64(workers*(round+1)) {
				runtime.Gosched()
			}
			work(i, round)
		}
	})
}

// row is so many new tallies that may count so many each.
func row(t *testing.T, n, most int) []*tally.Tally {
	t.Helper()
	all := make([]*tally.Tally, n)
	for i := range all {
		all[i] = made(t, most)
	}
	return all
}

func TestExample(t *testing.T) {
	x := made(t, 5)
	spends(t, x, 3)
	refuses(t, x, 3, api.ErrCap)
	stands(t, "most 5", x, 3, 2)
	spends(t, x, 2)
	stands(t, "most 5", x, 5, 0)
}

func TestNew(t *testing.T) {
	for _, most := range []int{0, 1, 2, 255, 1 << 31, math.MaxInt - 1, math.MaxInt} {
		stands(t, "New", made(t, most), 0, most)
	}
}

func TestNewRefused(t *testing.T) {
	for _, most := range []int{-1, -2, -1 << 31, -1 << 32, math.MinInt + 1, math.MinInt} {
		x, e := tally.New(most)
		if x != nil || e != api.ErrRange {
			t.Errorf("New(%d): %v, %v; want nil, %v", most, x, e, api.ErrRange)
		}
		stands(t, "New, refused", x, 0, 0)
	}
}

func TestSpendOfNothing(t *testing.T) {
	x := made(t, 0)
	spends(t, x, 0)
	for _, n := range []int{1, 2, 1 << 32, math.MaxInt} {
		refuses(t, x, n, api.ErrCap)
	}
	refuses(t, x, -1, api.ErrArg)
	spends(t, x, 0)
}

func TestSpendToTheEdge(t *testing.T) {
	for _, most := range []int{1, 2, 5, 255, 1 << 31, 1 << 32, math.MaxInt - 1} {
		x := made(t, most)
		refuses(t, x, most+1, api.ErrCap)
		spends(t, x, most-1)
		refuses(t, x, 2, api.ErrCap)
		spends(t, x, 1)
		refuses(t, x, 1, api.ErrCap)
		spends(t, x, 0)
	}
}

func TestSpendOfTheGreatest(t *testing.T) {
	x := made(t, math.MaxInt)
	spends(t, x, math.MaxInt)
	for _, n := range []int{1, 2, math.MaxInt - 1, math.MaxInt} {
		refuses(t, x, n, api.ErrCap)
	}
	spends(t, x, 0)

	// One more than an int holds, and twice as many: a count that wraps round would be below most again.
	for _, first := range []int{1, 2, 1 << 62, math.MaxInt} {
		x = made(t, math.MaxInt)
		spends(t, x, first)
		refuses(t, x, math.MaxInt, api.ErrCap)
		refuses(t, x, math.MaxInt-first+1, api.ErrCap)
		spends(t, x, math.MaxInt-first)
	}
	x = made(t, 5)
	spends(t, x, 3)
	refuses(t, x, math.MaxInt, api.ErrCap)
	refuses(t, x, math.MaxInt-2, api.ErrCap)
	spends(t, x, 2)
}

func TestSpendBelowNothing(t *testing.T) {
	for _, n := range []int{-1, -2, -3, -1 << 31, -1 << 32, math.MinInt + 1, math.MinInt} {
		x := made(t, 3)
		refuses(t, x, n, api.ErrArg)
		spends(t, x, 2)
		refuses(t, x, n, api.ErrArg)
		spends(t, x, 1)
		refuses(t, x, n, api.ErrArg)
		refuses(t, made(t, 0), n, api.ErrArg)
		refuses(t, made(t, math.MaxInt), n, api.ErrArg)
	}
}

// TestWalks goes all ways of four spends, against what the document says of each.
func TestWalks(t *testing.T) {
	const longest = 4
	var walk func(most int, gone []int)
	walk = func(most int, gone []int) {
		x, count := made(t, most), 0
		for _, n := range gone {
			switch {
			case n < 0:
				refuses(t, x, n, api.ErrArg)
			case count+n > most:
				refuses(t, x, n, api.ErrCap)
			default:
				spends(t, x, n)
				count += n
			}
			stands(t, "walk", x, count, most-count)
		}
		if len(gone) == longest {
			return
		}
		for n := -1; n <= 6; n++ {
			walk(most, append(slices.Clip(gone), n))
		}
	}
	for most := range 6 {
		walk(most, nil)
	}
}

func TestTalliesApart(t *testing.T) {
	x, y := made(t, 5), made(t, 5)
	spends(t, x, 4)
	stands(t, "the other one", y, 0, 5)
	spends(t, y, 5)
	stands(t, "the first one", x, 4, 1)
}

func TestNilTally(t *testing.T) {
	var x *tally.Tally
	for _, n := range []int{0, 1, -1, math.MaxInt, math.MinInt} {
		refuses(t, x, n, api.ErrNil)
	}
	stands(t, "nil", x, 0, 0)
}

// TestManySpend asks that what was taken is what was counted, whoever took it.
func TestManySpend(t *testing.T) {
	const workers, rounds = 8, 4000
	for _, most := range []int{0, 1, 1000, workers*rounds*2 - 1, workers * rounds * 10} {
		x := made(t, most)
		var taken atomic.Int64
		together(workers, func(i int) {
			for round := range rounds {
				n := (i + round) % 4
				if x.Spend(n) == api.OK {
					taken.Add(int64(n))
				}
			}
		})
		stands(t, "many", x, int(taken.Load()), most-int(taken.Load()))
		// Ones are asked for to the end: where more was asked for than there was, none may be left.
		if all := workers * rounds * 3 / 2; x.Count() != min(all, most) {
			t.Errorf("most %d: Count %d; want %d", most, x.Count(), min(all, most))
		}
	}
}

// TestManySpendAndLook asks that nobody sees a count that is above most, or that fell.
func TestManySpendAndLook(t *testing.T) {
	const most, lookers, spenders = 300000, 2, 6
	x := made(t, most)
	together(lookers+spenders, func(i int) {
		if i >= lookers {
			for x.Spend(3) == api.OK {
			}
			for x.Spend(1) == api.OK {
			}
			return
		}
		count, left := 0, most
		for left > 0 {
			nowCount, nowLeft := x.Count(), x.Left()
			if nowCount < count || nowCount > most || nowLeft > left || nowLeft < 0 || nowCount+nowLeft > most {
				t.Errorf("Count %d, Left %d behind %d, %d", nowCount, nowLeft, count, left)
				return
			}
			count, left = nowCount, nowLeft
		}
	})
	stands(t, "many", x, most, 0)
}

// TestManyAtTheEdge asks that of many who ask for the last ones, just so many are answered them.
func TestManyAtTheEdge(t *testing.T) {
	const workers, rounds = 4, 20000
	for most := range workers {
		all := row(t, rounds, most)
		told := make([][workers]api.Errno, rounds)
		inStep(workers, rounds, func(i, round int) { told[round][i] = all[round].Spend(1) })
		for round, x := range all {
			stands(t, "at the edge", x, most, 0)
			taken := 0
			for _, e := range told[round] {
				if e == api.OK {
					taken++
				} else if e != api.ErrCap {
					t.Errorf("Spend(1): %v", e)
				}
			}
			if taken != most {
				t.Fatalf("%d of %d were answered one of %d", taken, workers, most)
			}
		}
	}
}

// TestManyAndARefused asks that a spend that is refused in every order keeps no other from counting.
func TestManyAndARefused(t *testing.T) {
	const workers, rounds = 4, 20000
	const most = workers / 2
	all := row(t, rounds, most)
	inStep(workers, rounds, func(i, round int) {
		n, want := 1, api.OK
		switch i {
		case 0:
			n, want = most+1, api.ErrCap
		case 1:
			n, want = -1, api.ErrArg
		}
		if e := all[round].Spend(n); e != want {
			t.Errorf("Spend(%d): %v; want %v", n, e, want)
		}
	})
	for _, x := range all {
		stands(t, "with one refused", x, most, 0)
	}
}

// orders tells all orders of the numbers below n.
func orders(n int) [][]int {
	if n == 0 {
		return [][]int{nil}
	}
	var all [][]int
	for _, order := range orders(n - 1) {
		for at := range n {
			all = append(all, slices.Insert(slices.Clone(order), at, n-1))
		}
	}
	return all
}

// TestManyInSomeOrder asks that what many are answered is what they would be, one behind the other, in some order.
func TestManyInSomeOrder(t *testing.T) {
	const most = 10
	asked := [5]int{3, 4, 5, 6, 2}
	var may [][5]api.Errno
	for _, order := range orders(len(asked)) {
		var told [5]api.Errno
		count := 0
		for _, i := range order {
			if count+asked[i] > most {
				told[i] = api.ErrCap
			} else {
				count += asked[i]
			}
		}
		may = append(may, told)
	}
	const rounds = 10000
	all := row(t, rounds, most)
	told := make([][5]api.Errno, rounds)
	inStep(len(asked), rounds, func(i, round int) { told[round][i] = all[round].Spend(asked[i]) })
	for round, x := range all {
		if !slices.Contains(may, told[round]) {
			t.Fatalf("Spend of %v: %v, as in no order", asked, told[round])
		}
		count := 0
		for i, e := range told[round] {
			if e == api.OK {
				count += asked[i]
			}
		}
		stands(t, "in some order", x, count, most-count)
	}
}

// pair is a kind whose zero value is a struct.
type pair struct {
	number int
	text   string
}

// asks asks a Lazy ahead of making, once, and many times: of what create answers, and how often it was called.
func asks[T any](t *testing.T, what string, thing T, same func(x, y T) bool) {
	t.Helper()
	called := 0
	l := tally.Later(func() T { called++; return thing })
	if l == nil || l.Made() || l.Made() || called != 0 {
		t.Fatalf("%s: made too early", what)
	}
	for range 5 {
		if x := l.Get(); !same(x, thing) || !l.Made() || called != 1 {
			t.Errorf("%s: Get %v, Made %t, called %d times", what, x, l.Made(), called)
		}
	}
}

// asksNil asks a Lazy of a nil create, and a nil Lazy, of one kind.
func asksNil[T any](t *testing.T, what string, isZero func(x T) bool) {
	t.Helper()
	l := tally.Later[T](nil)
	if l == nil || l.Made() {
		t.Fatalf("%s: made too early", what)
	}
	for range 3 {
		if x := l.Get(); !isZero(x) || !l.Made() {
			t.Errorf("%s, a nil create: Get %v, Made %t", what, x, l.Made())
		}
	}
	var none *tally.Lazy[T]
	for range 2 {
		if none.Made() {
			t.Errorf("%s: a nil Lazy is made", what)
		}
		if x := none.Get(); !isZero(x) {
			t.Errorf("%s: a nil Lazy tells %v", what, x)
		}
	}
}

// asksBoth asks for a thing of a kind, for its zero value, and for a nil create and a nil Lazy of that kind.
func asksBoth[T comparable](t *testing.T, what string, thing T) {
	t.Helper()
	var zero T
	same := func(x, y T) bool { return x == y }
	asks(t, what, thing, same)
	asks(t, what+", the zero value", zero, same)
	asksNil(t, what, func(x T) bool { return x == zero })
}

func TestLazy(t *testing.T) {
	asksBoth(t, "a number", 7)
	asksBoth(t, "a greatest number", uint64(math.MaxUint64))
	asksBoth(t, "a text", "seven")
	asksBoth(t, "a bool", true)
	asksBoth(t, "a pointer", &pair{1, "one"})
	asksBoth(t, "a struct", pair{7, "seven"})
	asksBoth(t, "an array", [3]byte{1, 2, 3})
	asksBoth(t, "an error", errors.New("seven"))
	asksBoth(t, "an Errno", api.ErrDeep)
	asksBoth(t, "a tally", made(t, 5))
	asksBoth(t, "nothing", struct{}{})

	asks(t, "a list", []int{7, 8}, slices.Equal)
	asks(t, "a list, the zero value", nil, slices.Equal[[]int])
	asksNil(t, "a list", func(x []int) bool { return x == nil })
	asks(t, "an empty list", []pair{}, func(x, y []pair) bool { return x != nil && len(x) == 0 })
	asks(t, "a map", map[int]int{7: 8}, func(x, y map[int]int) bool { return len(x) == 1 && x[7] == 8 })
	asksNil(t, "a map", func(x map[int]int) bool { return x == nil })
	asks(t, "a function", func() int { return 7 }, func(x, y func() int) bool { return x() == 7 })
	asksNil(t, "a function", func(x func() int) bool { return x == nil })
	asks(t, "a form", api.Form{Kind: api.Row, Parts: []api.Form{{Size: 1}}}, func(x, y api.Form) bool {
		return x.Kind == api.Row && len(x.Parts) == 1 && x.Parts[0].Size == 1
	})
	asksNil(t, "a form", func(x api.Form) bool { return x.Kind == 0 && x.Parts == nil })
}

// TestLazyIsTheSame asks that each Get answers the one thing, not one that looks like it.
func TestLazyIsTheSame(t *testing.T) {
	p := tally.Later(func() *pair { return &pair{} })
	if p.Get() != p.Get() {
		t.Error("another pointer")
	}
	p.Get().number = 7
	if p.Get().number != 7 {
		t.Error("another struct behind the pointer")
	}
	l := tally.Later(func() []int { return []int{1, 2, 3} })
	l.Get()[1] = 9
	if !slices.Equal(l.Get(), []int{1, 9, 3}) {
		t.Error("another list:", l.Get())
	}
}

// TestLazyTellsTheFirst asks that what create would answer later is never told.
func TestLazyTellsTheFirst(t *testing.T) {
	n := 0
	l := tally.Later(func() int { n++; return n })
	n = 40
	for range 3 {
		if x := l.Get(); x != 41 || n != 41 {
			t.Errorf("Get %d, n %d; want 41 of both", x, n)
		}
		n = 41
	}
}

// TestMadeDoesNotMake asks that Made alone calls nothing, and may be asked by create itself.
func TestMadeDoesNotMake(t *testing.T) {
	called := 0
	var l *tally.Lazy[int]
	l = tally.Later(func() int {
		called++
		if l.Made() {
			t.Error("made while create has not answered")
		}
		return 7
	})
	for range 3 {
		if l.Made() || called != 0 {
			t.Fatal("made by Made")
		}
	}
	if l.Get() != 7 || !l.Made() || called != 1 {
		t.Errorf("Get %d, called %d times", l.Get(), called)
	}
}

func TestLaziesApart(t *testing.T) {
	called := 0
	create := func() int { called++; return called }
	x, y := tally.Later(create), tally.Later(create)
	if x.Get() != 1 || y.Made() || y.Get() != 2 || x.Get() != 1 || y.Get() != 2 || called != 2 {
		t.Error("two in one:", x.Get(), y.Get(), called)
	}
}

// TestLazyOfALazy asks that a create may ask another Lazy.
func TestLazyOfALazy(t *testing.T) {
	inner := tally.Later(func() int { return 7 })
	outer := tally.Later(func() int { return inner.Get() + 1 })
	if outer.Made() || inner.Made() || outer.Get() != 8 || !inner.Made() || inner.Get() != 7 {
		t.Error(outer.Get(), inner.Get())
	}
}

// TestLazyPanics asks that Get doesn't, where create does: the zero value is made, and create isn't called again.
func TestLazyPanics(t *testing.T) {
	for _, with := range []any{"panic", errors.New("panic"), nil} {
		called := 0
		l := tally.Later(func() pair {
			called++
			panic(with)
		})
		for range 3 {
			if x := l.Get(); x != (pair{}) || !l.Made() || called != 1 {
				t.Errorf("panic(%v): Get %v, Made %t, called %d times", with, x, l.Made(), called)
			}
		}
	}
	var none []int
	l := tally.Later(func() int { return none[3] })
	if l.Get() != 0 || !l.Made() {
		t.Error("a create that looks behind a list:", l.Get(), l.Made())
	}
}

// TestLazyLeaves asks that a create that ends its goroutine isn't called again either.
func TestLazyLeaves(t *testing.T) {
	called := 0
	l := tally.Later(func() int {
		called++
		runtime.Goexit()
		return 7
	})
	together(1, func(int) { l.Get() })
	if l.Get() != 0 || !l.Made() || called != 1 {
		t.Errorf("Get %d, Made %t, called %d times", l.Get(), l.Made(), called)
	}
}

// TestManyGet asks that create is called once, and that each Get answers the same thing.
func TestManyGet(t *testing.T) {
	const workers = 16
	for range 500 {
		var called atomic.Int64
		l := tally.Later(func() *pair {
			called.Add(1)
			runtime.Gosched() // so that others ask while it is being made
			return &pair{7, "seven"}
		})
		var told [workers]*pair
		together(workers, func(i int) {
			told[i] = l.Get()
			if !l.Made() {
				t.Error("not made behind Get")
			}
		})
		if called.Load() != 1 {
			t.Fatalf("called %d times", called.Load())
		}
		for _, x := range told {
			if x == nil || x != told[0] || *x != (pair{7, "seven"}) {
				t.Fatal("another thing:", x, told[0])
			}
		}
	}
}

// TestManyGetOfNil asks the same of a nil create.
func TestManyGetOfNil(t *testing.T) {
	for range 200 {
		l := tally.Later[pair](nil)
		together(8, func(int) {
			if l.Get() != (pair{}) || !l.Made() {
				t.Error("nil:", l.Get(), l.Made())
			}
		})
	}
}

// TestGetWaits asks that a Get that comes while create is at work tells what it will answer, and that Made doesn't wait.
func TestGetWaits(t *testing.T) {
	const others = 4
	begun, gate := make(chan struct{}), make(chan struct{})
	l := tally.Later(func() int {
		close(begun)
		<-gate
		return 7
	})
	var all sync.WaitGroup
	var told [others + 1]int
	all.Go(func() { told[0] = l.Get() })
	<-begun
	var asking, early atomic.Int64
	for i := range others {
		all.Go(func() {
			asking.Add(1)
			told[i+1] = l.Get()
			early.Add(1)
		})
	}
	for asking.Load() < others {
		runtime.Gosched()
	}
	for range 100 {
		runtime.Gosched()
		if l.Made() || early.Load() != 0 {
			t.Error("made while create is at work")
			break
		}
	}
	close(gate)
	all.Wait()
	if told != [others + 1]int{7, 7, 7, 7, 7} || !l.Made() {
		t.Error(told, l.Made())
	}
}

// TestMadeMeansMade asks that who sees it made is answered the thing, and that it stays made.
func TestMadeMeansMade(t *testing.T) {
	for range 300 {
		l := tally.Later(func() []int { return []int{7, 8, 9} })
		together(4, func(i int) {
			if i == 0 {
				l.Get()
				return
			}
			for !l.Made() {
				runtime.Gosched()
			}
			if !slices.Equal(l.Get(), []int{7, 8, 9}) || !l.Made() {
				t.Error("made, but", l.Get(), l.Made())
			}
		})
	}
}
