package chain_test

import (
	"slices"
	"testing"

	"pythia/api"
)

// deed is an operation that is to be begun.
type deed struct {
	kind, chain int
	value       int64
}

// orders plays operations in every order that their steps can have.
func orders(begin func() *watch) (played int, ended map[api.Errno]int) {
	ended = map[api.Errno]int{}
	var picks, most []int // which operation each pick took, and among how many
	for {
		w := begin()
		for i := 0; len(w.way) > 0; i++ {
			if i == len(picks) {
				picks, most = append(picks, 0), append(most, 0)
			}
			most[i] = len(w.way)
			w.step(w.way[picks[i]])
		}
		for e, n := range w.ended {
			ended[e] += n
		}
		played++
		last := len(picks) - 1
		for last >= 0 && picks[last]+1 == most[last] {
			last--
		}
		if last < 0 {
			return played, ended
		}
		picks, most = picks[:last+1], most[:last+1]
		picks[last]++
	}
}

// P5.1 to P5.4: two operations in all orders, on a chain that never had a list.
func TestAllOrders(t *testing.T) {
	for _, c := range []struct {
		room, bound int
		begun       []deed
		ended       []api.Errno
	}{
		{100, 9, []deed{{front, 1, 7}, {front, 1, 8}}, []api.Errno{api.OK}},
		{100, 9, []deed{{behind, 1, 7}, {front, 1, 7}}, []api.Errno{api.OK}},
		{100, 9, []deed{{behind, 1, 7}, {cut, 1, 7}}, []api.Errno{api.OK}},
		{100, 9, []deed{{behind, 1, 7}, {cut, 1, 8}}, []api.Errno{api.OK}},
		{100, 9, []deed{{behind, 1, 7}, {all, 1, 0}}, []api.Errno{api.OK}},
		{100, 9, []deed{{behind, 1, 7}, {behind, 2, 8}}, []api.Errno{api.OK}},
		{100, 1, []deed{{behind, 1, 7}, {behind, 1, 8}}, []api.Errno{api.OK}},
		{100, 0, []deed{{behind, 1, 7}, {cut, 1, 8}}, []api.Errno{api.OK, api.ErrLimbo}},
		{5, 9, []deed{{behind, 1, 7}, {behind, 1, 8}}, []api.Errno{api.OK, api.ErrFull}},
		{3, 9, []deed{{behind, 1, 7}, {cut, 1, 8}}, []api.Errno{api.OK, api.ErrFull}},
	} {
		played, ended := orders(func() *watch {
			w := newWatch(t, c.room, 2, c.bound, 2)
			for i, d := range c.begun {
				w.begin(d.kind, 1+i, d.chain, d.value)
			}
			return w
		})
		if played < 10 || !slices.Equal(errs(ended), c.ended) {
			t.Errorf("%v in %d cells, bound %d: %d orders ended %v", c.begun, c.room, c.bound, played, ended)
		}
	}
}

// P5.1 to P5.4: two operations of all kinds, on a chain that is empty again, or short: one is left at any of its steps, the other too, and taken up again.
func TestManyPlaces(t *testing.T) {
	kinds := []deed{{front, 1, 2}, {behind, 1, 1}, {cut, 1, 1}, {cut, 1, 2}, {all, 1, 0}, {behind, 2, 2}}
	for _, there := range []int{0, 1, 2} {
		third := 1
		if there == 1 {
			third = 10
		}
		for _, one := range kinds {
			for _, two := range kinds {
				for n := range 14 * 14 * third {
					w := newWatch(t, 200, 3, 4, 2)
					w.fill(3, 1, there)
					if there == 0 {
						w.run(front, 3, 1, 5)
						w.run(cut, 3, 1, 5)
					}
					x := w.begin(one.kind, 1, one.chain, one.value)
					y := w.begin(two.kind, 2, two.chain, two.value)
					w.steal(x, n%14)
					w.steal(y, n/14%14)
					w.steal(x, n/14/14)
					w.steal(y, 1000)
					w.turns()
				}
			}
		}
	}
}

// steal lets an operation do so many steps, if it isn't over before.
func (w *watch) steal(x *watched, n int) {
	w.t.Helper()
	for ; n > 0 && !x.op.Over(); n-- {
		w.step(x)
	}
}

// dice tells numbers that are the same at every run.
type dice uint64

func (d *dice) roll(n int) int {
	*d = *d*6364136223846793005 + 1442695040888963407
	return int(*d>>33) % n
}

// P5.1 to P5.4: many operations of many threads, begun and stepped in a great many orders, with little room and small bounds.
func TestManyOrders(t *testing.T) {
	d := dice(1)
	ended := map[api.Errno]int{}
	for range 1000 {
		threads, chains := 1+d.roll(8), 1+d.roll(3)
		w := newWatch(t, chains+5+d.roll(80), threads, d.roll(8), chains)
		for range 300 {
			if len(w.way) < 2*threads && d.roll(3) == 0 {
				w.begin(d.roll(4), d.roll(threads+2), d.roll(chains+2), int64(d.roll(5)))
			}
			if len(w.way) > 0 {
				x := w.way[d.roll(len(w.way))]
				w.steal(x, d.roll(20))
			}
		}
		w.turns()
		for e, n := range w.ended {
			ended[e] += n
		}
	}
	for _, e := range []api.Errno{api.OK, api.ErrArg, api.ErrInside, api.ErrLimbo, api.ErrFull} {
		if ended[e] < 100 {
			t.Errorf("too little was played: %v", ended)
		}
	}
}

// P5.1 to P5.4: chains that are about full, and many who want to change them.
func TestLong(t *testing.T) {
	d := dice(2)
	w := newWatch(t, api.MaxCells, 8, 64, 2)
	w.fill(1, 1, 197)
	w.fill(2, 2, 199)
	for range 400 {
		thread, n := 1+d.roll(8), d.roll(5)
		kind := n % 4
		if !w.isInside(thread) {
			w.begin(kind, thread, 1+d.roll(2), int64(1+d.roll(197)))
		}
		w.steal(w.way[d.roll(len(w.way))], d.roll(600))
	}
	w.turns()
	if w.ended[api.OK] < 50 || w.ended[api.ErrMany] < 10 {
		t.Errorf("too little was played: %v", w.ended)
	}
}

// P5.3: of operations that get into one another's way at every step one is over in time.
func TestPace(t *testing.T) {
	for k := 1; k <= 8; k++ {
		for _, kind := range []int{front, behind, cut} {
			w := newWatch(t, 5000, 8, 9, 1)
			w.fill(1, 1, 20)
			for i := range k {
				w.begin(kind, 1+i, 1, int64(20-i))
			}
			w.turns()
			if w.ended[api.OK] != k {
				t.Errorf("%d operations of kind %d: %v", k, kind, w.ended)
			}
		}
	}
}

// P5.3: an All goes on whatever is changed between each two of its steps.
func TestAllGoesOn(t *testing.T) {
	w := newWatch(t, 5000, 8, 64, 1)
	w.fill(1, 1, 30)
	x := w.begin(all, 2, 1, 0)
	for !x.op.Over() {
		w.step(x)
		w.run(cut, 1, 1, int64(w.plain[1].values[0]))
		w.run(front, 1, 1, 99)
		w.steps = 0
	}
	if n := len(x.want.Values); n != 30 || x.steps < 32 {
		t.Errorf("%d numbers in %d steps", n, x.steps)
	}
}
