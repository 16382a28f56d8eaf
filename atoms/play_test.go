package atoms_test

import (
	"testing"

	"pythia/api"
)

// orders plays operations in every order that their steps can have; it answers how many there are.
func orders(begin func() *watch) (played int, ended map[api.Errno]int) {
	ended = map[api.Errno]int{}
	var picks, most []int // which operation each pick took, and among how many
	for {
		w := begin()
		for i := 0; len(w.way) > 0; i++ {
			if i == len(picks) {
				picks, most = append(picks, 0), append(most, 0)
			}
			most[i] = len(w.way)
			w.step(picks[i])
		}
		w.rest()
		for e, n := range w.ended {
			ended[e] += n
		}
		played++
		last := len(picks) - 1
		for last >= 0 && picks[last]+1 == most[last] {
			last--
		}
		if last < 0 {
			return played, ended
		}
		picks, most = picks[:last+1], most[:last+1]
		picks[last]++
	}
}

// P3.1 to P3.4: two operations in all orders: on one name and on unlike ones, in one list, with room for all and without, on a table with and without names.
func TestAllOrders(t *testing.T) {
	for _, c := range []struct {
		room, most   int
		there, begun []string
		ended        []api.Errno // how an operation ends in one of the orders at least
	}{
		{100, 9, nil, []string{"c", "c"}, []api.Errno{api.OK}},
		{100, 9, nil, []string{"c", "d"}, []api.Errno{api.OK}},
		{100, 9, []string{"a"}, []string{"c", "c"}, []api.Errno{api.OK}},
		{100, 9, []string{"a"}, []string{"c", "d"}, []api.Errno{api.OK}},
		{100, 9, []string{"a"}, []string{"c", "a"}, []api.Errno{api.OK}},
		{100, 0, nil, []string{"c", "c"}, []api.Errno{api.ErrMany}},
		{100, 1, nil, []string{"c", "c"}, []api.Errno{api.OK}},
		{100, 1, nil, []string{"c", "d"}, []api.Errno{api.OK, api.ErrMany}},
		{100, 2, []string{"a"}, []string{"c", "c"}, []api.Errno{api.OK}},
		{100, 2, []string{"a"}, []string{"c", "d"}, []api.Errno{api.OK, api.ErrMany}},
		{100, 1, []string{"a"}, []string{"a", "d"}, []api.Errno{api.OK, api.ErrMany}},
		{3, 9, nil, []string{"c", "c"}, []api.Errno{api.OK, api.ErrFull}},
		{3, 9, nil, []string{"c", "d"}, []api.Errno{api.OK, api.ErrFull}},
		{3, 1, nil, []string{"c", "d"}, []api.Errno{api.OK, api.ErrMany, api.ErrFull}},
		{3, 9, []string{"a"}, []string{"a", "d"}, []api.Errno{api.OK, api.ErrFull}},
	} {
		_, ended := orders(func() *watch {
			w := newWatch(t, c.room, 1, c.most)
			w.intern(c.there...)
			clear(w.ended)
			for _, name := range c.begun {
				w.begin(name)
			}
			return w
		})
		for _, e := range c.ended {
			if ended[e] == 0 {
				t.Errorf("%v on %v of at most %d in %d cells: in no order one ends with %d: %v", c.begun, c.there, c.most, c.room, e, ended)
			}
			delete(ended, e)
		}
		if len(ended) != 0 {
			t.Errorf("%v on %v of at most %d in %d cells: ends that may not be: %v", c.begun, c.there, c.most, c.room, ended)
		}
	}
}

// dice tells numbers that are the same at every run.
type dice uint64

func (d *dice) roll(n int) int {
	*d = *d*6364136223846793005 + 1442695040888963407
	return int(*d>>33) % n
}

// P3.1 to P3.4: many operations, begun and stepped in a great many orders, with little room.
func TestManyOrders(t *testing.T) {
	d := dice(1)
	ended := map[api.Errno]int{}
	for range 400 {
		lists := 1 + d.roll(4)
		w := newWatch(t, lists+1+d.roll(30), lists, d.roll(12))
		k := 1 + d.roll(6)
		for range 200 {
			if len(w.way) < k && d.roll(4) == 0 {
				w.begin(string(rune('a' + d.roll(14))))
			}
			if len(w.way) > 0 {
				i := d.roll(len(w.way))
				for n := d.roll(6); n > 0 && i < len(w.way); n-- {
					w.step(i)
				}
			}
		}
		w.turns()
		w.rest()
		for e, n := range w.ended {
			ended[e] += n
		}
	}
	if ended[api.OK] < 1000 || ended[api.ErrMany] < 100 || ended[api.ErrFull] < 100 {
		t.Errorf("too little was played: %v", ended)
	}
}

// P3.2: whatever the others have left half done, an operation that is stepped alone is soon over.
func TestAlone(t *testing.T) {
	for left := range 12 {
		for begun := range 12 {
			w := newWatch(t, 200, 3, 20)
			w.intern("a", "b", "c", "d", "e")
			for _, name := range []string{"x", "y", "z", "a"} {
				w.begin(name)
				for i, n := len(w.way)-1, 0; n < left && i < len(w.way); n++ {
					w.step(i)
				}
			}
			w.begin("x")
			last := w.way[len(w.way)-1]
			for n := 0; n < begun && !last.op.Over(); n++ {
				w.step(len(w.way) - 1)
			}
			w.intern("u", "v") // others that come between
			for i, x := range w.way {
				if x == last {
					for len(w.way) > i && w.way[i] == last {
						w.step(i)
					}
					break
				}
			}
			w.turns()
			w.rest()
		}
	}
}

// P3.2: of operations that get into one another's way at every step one is over in time.
func TestPace(t *testing.T) {
	for k := 1; k <= 12; k++ {
		w := newWatch(t, 500, 1, 100)
		w.intern("a", "b", "c")
		for i := range k {
			w.begin(string(rune('A' + i)))
		}
		w.turns()
		w.rest()
		if w.ended[api.OK] != 3+k {
			t.Errorf("%d operations: %v", k, w.ended)
		}
	}
}
