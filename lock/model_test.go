package lock_test

import (
	"testing"

	"pythia/api"
	"pythia/lock"
)

// mutex is a mutex of the model: who has taken it and hasn't given it back, once for each time.
type mutex struct {
	gone  bool
	takes []int
}

// model is locks made plainly: all mutexes that there ever were, by their numbers less 1.
type model []mutex

func (l *model) all() []int {
	var numbers []int
	for i, m := range *l {
		if !m.gone {
			numbers = append(numbers, i+1)
		}
	}
	return numbers
}

func (l *model) of(m int) *mutex {
	if m < 1 || m > len(*l) || (*l)[m-1].gone {
		return nil
	}
	return &(*l)[m-1]
}

func (l *model) make() (int, api.Errno) {
	if len(l.all()) == 8 {
		return 0, api.ErrMany
	}
	*l = append(*l, mutex{})
	return len(*l), api.OK
}

func (l *model) drop(m int) api.Errno {
	of := l.of(m)
	switch {
	case of == nil:
		return api.ErrGone
	case len(of.takes) > 0:
		return api.ErrOwner
	}
	of.gone = true
	return api.OK
}

func (l *model) take(m, t int) api.Errno {
	of := l.of(m)
	switch {
	case of == nil:
		return api.ErrGone
	case t < 1:
		return api.ErrArg
	case len(of.takes) > 0 && of.takes[0] != t:
		return api.ErrWait
	}
	of.takes = append(of.takes, t)
	return api.OK
}

func (l *model) give(m, t int) api.Errno {
	of := l.of(m)
	switch {
	case of == nil:
		return api.ErrGone
	case t < 1:
		return api.ErrArg
	case len(of.takes) == 0 || of.takes[0] != t:
		return api.ErrOwner
	}
	of.takes = of.takes[1:]
	return api.OK
}

func (l *model) leave(t int) []int {
	var left []int
	for i := range *l {
		if m := &(*l)[i]; len(m.takes) > 0 && m.takes[0] == t {
			left = append(left, i+1)
			m.takes = nil
		}
	}
	return left
}

func (l *model) owner(m int) (int, int) {
	of := l.of(m)
	if of == nil || len(of.takes) == 0 {
		return 0, 0
	}
	return of.takes[0], len(of.takes)
}

// dice tells numbers that are the same at every run.
type dice uint64

func (d *dice) roll(n int) int {
	*d = *d*6364136223846793005 + 1442695040888963407
	return int(*d>>33) % n
}

// pick is the number of a mutex, mostly of one that there is.
func (d *dice) pick(m *model) int {
	if all := m.all(); d.roll(6) > 0 && len(all) > 0 {
		return all[d.roll(len(all))]
	}
	return len(*m) + 1 - d.roll(len(*m)+3)
}

// P15.1, P15.2: calls in a great many orders, beside the model.
func TestManyOrders(t *testing.T) {
	d := dice(15)
	for range 300 {
		l, m := lock.New(), &model{}
		threads := 1 + d.roll(4)
		for range 300 {
			n, thread := d.pick(m), d.roll(threads+2)-1
			switch k := d.roll(40); {
			case k < 3:
				got, e := l.Make()
				if want, err := m.make(); got != want || e != err {
					t.Fatalf("Make = %d, %d, not %d, %d", got, e, want, err)
				}
			case k < 6:
				drops(t, l, n, m.drop(n))
			case k < 24:
				takes(t, l, n, thread, m.take(n, thread))
			case k < 38:
				gives(t, l, n, thread, m.give(n, thread))
			default:
				leaves(t, l, thread, m.leave(thread)...)
			}
			there(t, l, m.all()...)
			for n := range len(*m) + 2 {
				who, often := m.owner(n)
				owns(t, l, n, who, often)
			}
		}
	}
}
