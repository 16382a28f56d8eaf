package read_test

import (
	"math/rand"
	"slices"
	"testing"

	"pythia/api"
	"pythia/ops"
	"pythia/read"
)

// rich is a text whose terms have lists, names and variables of all sorts.
const rich = "f(X, Y, [X, _, a | Z], {b, c}, - d, e = g). [1, 2, 3, 4, 5]. p(A) :- q(A, B), \\+ r(B). s. :- op(700, xfx, eq). [U, V] eq t(V, W, U). -1."

// spoil writes over all memory of what was read, spare room too.
func spoil(rs []api.Read) {
	var walk func(args []api.Term)
	walk = func(args []api.Term) {
		for _, arg := range args {
			walk(arg.Args)
		}
		clear(args[:cap(args)])
	}
	for _, r := range rs {
		walk(r.Term.Args)
		clear(r.Names[:cap(r.Names)])
	}
	clear(rs[:cap(rs)])
}

// P10.4: an answer stays while others are made and written over, and changes none.
func TestAnswersAreNew(t *testing.T) {
	first, err := read.All(ops.New(), rich)
	if err != nil || len(first) != 6 {
		t.Fatalf("%s, %v", told(first), err)
	}
	was := told(first)
	table := ops.New()
	second, _ := read.All(table, rich)
	changed := table.All()
	if !slices.EqualFunc(first, second, same) {
		t.Errorf("%s, not %s", told(second), was)
	}
	spoil(second)
	has(t, table, changed)
	third, _ := read.All(table, rich)
	if told(first) != was || told(third) != was {
		t.Errorf("%s and %s, not %s", told(first), told(third), was)
	}
}

// memory counts the places that lists take, spare room too.
type memory struct {
	terms map[*api.Term]int
	names map[*string]int
	reads map[*api.Read]int
}

// count counts a list's places, and answers whether none was counted before.
func count[T any](seen map[*T]int, list []T) bool {
	list = list[:cap(list)]
	for i := range list {
		if seen[&list[i]]++; seen[&list[i]] > 1 {
			return false
		}
	}
	return true
}

// add tells whether the lists of an answer share no memory with one another, and with those that were counted.
func (m memory) add(rs []api.Read) bool {
	var walk func(args []api.Term) bool
	walk = func(args []api.Term) bool {
		return count(m.terms, args) && !slices.ContainsFunc(args, func(arg api.Term) bool { return !walk(arg.Args) })
	}
	return count(m.reads, rs) && !slices.ContainsFunc(rs, func(r api.Read) bool { return !count(m.names, r.Names) || !walk(r.Term.Args) })
}

// P10.4: no two lists of answers share any memory, spare room too.
func TestApart(t *testing.T) {
	r := rand.New(rand.NewSource(14))
	m := memory{map[*api.Term]int{}, map[*string]int{}, map[*api.Read]int{}}
	for range 2000 {
		text := anyText(r) + rich
		if r.Intn(2) == 0 {
			text = rich
		}
		rs, _ := read.All(ops.New(), text)
		if !m.add(rs) {
			t.Fatalf("%q: lists share memory", text)
		}
	}
}

// P2: what a text is read as hangs on it and on the table alone; a table that no :- op tells of stays.
func TestAlways(t *testing.T) {
	table := with(t, op("eq", api.XFX, 700), op("o", api.YF, 20))
	was := table.All()
	want, _ := read.All(table, rich)
	for range 50 {
		for _, text := range []string{"a o.", "f(", "a b.", "'", "X. Y. Z."} {
			read.All(table, text)
		}
		got, err := read.All(table.Clone(), rich)
		if err != nil || !slices.EqualFunc(got, want, same) {
			t.Fatalf("%s, %v, not %s", told(got), err, told(want))
		}
	}
	has(t, table, was)
}
