package lock_test

import (
	"math"
	"slices"
	"testing"

	"pythia/api"
	"pythia/lock"
)

// made are locks with so many mutexes.
func made(t *testing.T, mutexes int) *lock.Locks {
	t.Helper()
	l := lock.New()
	for m := 1; m <= mutexes; m++ {
		makes(t, l, m)
	}
	return l
}

// makes fails, if a new mutex hasn't this number, or somebody has it.
func makes(t *testing.T, l *lock.Locks, want int) {
	t.Helper()
	if m, e := l.Make(); m != want || e != api.OK {
		t.Fatalf("Make = %d, %d, not %d", m, e, want)
	}
	owns(t, l, want, 0, 0)
}

// drops fails, if Drop isn't answered so.
func drops(t *testing.T, l *lock.Locks, m int, want api.Errno) {
	t.Helper()
	if e := l.Drop(m); e != want {
		t.Fatalf("Drop(%d) = %d, not %d", m, e, want)
	}
}

// takes fails, if Take isn't answered so.
func takes(t *testing.T, l *lock.Locks, m, thread int, want api.Errno) {
	t.Helper()
	if e := l.Take(m, thread); e != want {
		t.Fatalf("Take(%d, %d) = %d, not %d", m, thread, e, want)
	}
}

// gives fails, if Give isn't answered so.
func gives(t *testing.T, l *lock.Locks, m, thread int, want api.Errno) {
	t.Helper()
	if e := l.Give(m, thread); e != want {
		t.Fatalf("Give(%d, %d) = %d, not %d", m, thread, e, want)
	}
}

// leaves fails, if these aren't the mutexes that a thread had.
func leaves(t *testing.T, l *lock.Locks, thread int, want ...int) {
	t.Helper()
	if got := l.Leave(thread); !slices.Equal(got, want) {
		t.Fatalf("Leave(%d) = %v, not %v", thread, got, want)
	}
}

// owns fails, if a mutex isn't this thread's, so often.
func owns(t *testing.T, l *lock.Locks, m, thread, times int) {
	t.Helper()
	if who, often := l.Owner(m); who != thread || often != times {
		t.Fatalf("Owner(%d) = %d, %d, not %d, %d", m, who, often, thread, times)
	}
}

// there fails, if these aren't the mutexes that there are.
func there(t *testing.T, l *lock.Locks, want ...int) {
	t.Helper()
	if got := l.All(); !slices.Equal(got, want) {
		t.Fatalf("All = %v, not %v", got, want)
	}
}

// P15.1: the chapter's example.
func TestExample(t *testing.T) {
	l := lock.New()
	there(t, l)
	makes(t, l, 1)
	takes(t, l, 1, 5, api.OK)
	takes(t, l, 1, 5, api.OK)
	takes(t, l, 1, 6, api.ErrWait)
	gives(t, l, 1, 5, api.OK)
	owns(t, l, 1, 5, 1)
	leaves(t, l, 5, 1)
	takes(t, l, 1, 6, api.OK)
	owns(t, l, 1, 6, 1)
	there(t, l, 1)
}

// P15.1: how many mutexes there may be, and that no number comes again.
func TestNumbers(t *testing.T) {
	l := made(t, 8)
	for range 3 {
		if m, e := l.Make(); m != 0 || e != api.ErrMany {
			t.Fatalf("Make of a ninth = %d, %d", m, e)
		}
		there(t, l, 1, 2, 3, 4, 5, 6, 7, 8)
	}
	drops(t, l, 8, api.OK)
	drops(t, l, 3, api.OK)
	drops(t, l, 3, api.ErrGone)
	there(t, l, 1, 2, 4, 5, 6, 7)
	// What was refused has taken no number; what was dropped doesn't give its own back.
	makes(t, l, 9)
	makes(t, l, 10)
	there(t, l, 1, 2, 4, 5, 6, 7, 9, 10)
	if m, e := l.Make(); m != 0 || e != api.ErrMany {
		t.Fatalf("Make of a ninth again = %d, %d", m, e)
	}
	for _, m := range l.All() {
		drops(t, l, m, api.OK)
	}
	there(t, l)
	for m := 11; m <= 100; m++ {
		makes(t, l, m)
		there(t, l, m)
		takes(t, l, m, m, api.OK)
		gives(t, l, m, m, api.OK)
		drops(t, l, m, api.OK)
		there(t, l)
	}
}

// P15.1: a mutex that there isn't is told first of all, and nothing is changed.
func TestNoMutex(t *testing.T) {
	l := made(t, 4)
	drops(t, l, 2, api.OK)
	drops(t, l, 4, api.OK)
	takes(t, l, 1, 7, api.OK)
	for _, m := range []int{0, 2, 4, 5, 9, -1, -3, 1<<32 + 1, math.MinInt, math.MaxInt} {
		drops(t, l, m, api.ErrGone)
		for _, thread := range []int{1, 7, 0, -1, math.MinInt, math.MaxInt} {
			takes(t, l, m, thread, api.ErrGone)
			gives(t, l, m, thread, api.ErrGone)
		}
		owns(t, l, m, 0, 0)
		there(t, l, 1, 3)
	}
	owns(t, l, 1, 7, 1)
	owns(t, l, 3, 0, 0)
	makes(t, l, 5)
}

// P15.1: threads below 1, of mutexes that nobody has and that somebody has; the greatest number is a thread's, too.
func TestThreads(t *testing.T) {
	l := made(t, 2)
	takes(t, l, 2, 3, api.OK)
	for _, none := range []int{0, -1, -3, math.MinInt} {
		for m := 1; m <= 2; m++ {
			takes(t, l, m, none, api.ErrArg)
			gives(t, l, m, none, api.ErrArg)
		}
		leaves(t, l, none)
		owns(t, l, 1, 0, 0)
		owns(t, l, 2, 3, 1)
	}
	takes(t, l, 1, math.MaxInt, api.OK)
	owns(t, l, 1, math.MaxInt, 1)
	takes(t, l, 1, 1, api.ErrWait)
	gives(t, l, 1, math.MaxInt, api.OK)
	takes(t, l, 1, 1, api.OK)
	takes(t, l, 1, math.MaxInt, api.ErrWait)
}

// P15.2: who has taken it n times has it until it has given it n times, and others wait meanwhile.
func TestAgainAndAgain(t *testing.T) {
	const n = 1000
	l := made(t, 1)
	for i := 1; i <= n; i++ {
		takes(t, l, 1, 2, api.OK)
		takes(t, l, 1, 3, api.ErrWait)
		gives(t, l, 1, 3, api.ErrOwner)
		owns(t, l, 1, 2, i)
	}
	for i := n - 1; i >= 0; i-- {
		takes(t, l, 1, 3, api.ErrWait)
		gives(t, l, 1, 1, api.ErrOwner)
		drops(t, l, 1, api.ErrOwner)
		gives(t, l, 1, 2, api.OK)
		if i > 0 {
			owns(t, l, 1, 2, i)
		}
	}
	owns(t, l, 1, 0, 0)
	gives(t, l, 1, 2, api.ErrOwner) // once more than it was taken
	gives(t, l, 1, 3, api.ErrOwner)
	owns(t, l, 1, 0, 0)
	takes(t, l, 1, 3, api.OK)
	takes(t, l, 1, 2, api.ErrWait)
	gives(t, l, 1, 2, api.ErrOwner)
	owns(t, l, 1, 3, 1)
}

// P15.1: a mutex that somebody has isn't dropped; one that was given back, or left, is.
func TestDrop(t *testing.T) {
	l := made(t, 3)
	takes(t, l, 1, 1, api.OK)
	takes(t, l, 1, 1, api.OK)
	takes(t, l, 2, 1, api.OK)
	drops(t, l, 1, api.ErrOwner)
	drops(t, l, 2, api.ErrOwner)
	there(t, l, 1, 2, 3)
	owns(t, l, 1, 1, 2)
	gives(t, l, 1, 1, api.OK)
	drops(t, l, 1, api.ErrOwner)
	gives(t, l, 1, 1, api.OK)
	drops(t, l, 1, api.OK)
	there(t, l, 2, 3)
	leaves(t, l, 1, 2)
	drops(t, l, 2, api.OK)
	drops(t, l, 3, api.OK)
	there(t, l)
	leaves(t, l, 1)
}

// P15.1, P15.2: Leave by who has several, one, or none, however often they were taken.
func TestLeave(t *testing.T) {
	l := made(t, 8)
	for i, m := range []int{7, 2, 5, 3} { // not in the order of their numbers
		for range i + 1 {
			takes(t, l, m, 4, api.OK)
		}
	}
	takes(t, l, 1, 9, api.OK)
	takes(t, l, 8, 9, api.OK)
	takes(t, l, 8, 9, api.OK)
	takes(t, l, 6, 3, api.OK)
	leaves(t, l, 5)
	leaves(t, l, 4, 2, 3, 5, 7)
	leaves(t, l, 4)
	for _, m := range []int{2, 3, 4, 5, 7} {
		owns(t, l, m, 0, 0)
	}
	owns(t, l, 1, 9, 1)
	owns(t, l, 6, 3, 1)
	owns(t, l, 8, 9, 2)
	leaves(t, l, 3, 6)
	gives(t, l, 7, 4, api.ErrOwner)
	takes(t, l, 7, 3, api.OK)
	owns(t, l, 7, 3, 1)
	leaves(t, l, 9, 1, 8)
	leaves(t, l, 3, 7)
	there(t, l, 1, 2, 3, 4, 5, 6, 7, 8)
	for m := 1; m <= 8; m++ {
		owns(t, l, m, 0, 0)
		takes(t, l, m, 4, api.OK)
	}
	leaves(t, l, 4, 1, 2, 3, 4, 5, 6, 7, 8)
}

// P15.2: locks beside one another have nothing in common.
func TestApart(t *testing.T) {
	l, other := made(t, 2), made(t, 1)
	takes(t, l, 1, 5, api.OK)
	takes(t, other, 1, 6, api.OK)
	leaves(t, l, 6)
	leaves(t, other, 6, 1)
	owns(t, l, 1, 5, 1)
	there(t, other, 1)
}

// P15.3: answers are new memory, and stay as they are.
func TestNewMemory(t *testing.T) {
	l := made(t, 5)
	all := l.All()
	for range 3 {
		for m := 1; m <= 5; m++ {
			takes(t, l, m, 2, api.OK)
		}
		left := l.Leave(2)
		if !slices.Equal(left, []int{1, 2, 3, 4, 5}) {
			t.Fatalf("Leave = %v", left)
		}
		for _, answer := range [][]int{left, l.All()} {
			answer = answer[:cap(answer)]
			for i := range answer {
				answer[i] = 9
			}
		}
		there(t, l, 1, 2, 3, 4, 5)
	}
	takes(t, l, 2, 2, api.OK)
	takes(t, l, 4, 2, api.OK)
	left := l.Leave(2)
	takes(t, l, 3, 2, api.OK)
	leaves(t, l, 2, 3)
	drops(t, l, 2, api.OK)
	if !slices.Equal(all, []int{1, 2, 3, 4, 5}) || !slices.Equal(left, []int{2, 4}) {
		t.Errorf("what was held has become %v, %v", all, left)
	}
}

// P2: what is answered doesn't hang on a map's order.
func TestAlways(t *testing.T) {
	for range 100 {
		l := made(t, 8)
		there(t, l, 1, 2, 3, 4, 5, 6, 7, 8)
		for m := 8; m > 0; m-- {
			takes(t, l, m, 1, api.OK)
		}
		leaves(t, l, 1, 1, 2, 3, 4, 5, 6, 7, 8)
	}
}
