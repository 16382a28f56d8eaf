package write_test

import (
	"math"
	"math/rand"
	"slices"
	"strings"
	"testing"

	"pythia/api"
	"pythia/ops"
	"pythia/read"
	"pythia/term"
	"pythia/write"
)

// readBack fails, if a term's text isn't read as a variant of it; texts and terms that nothing is promised of are let be.
func readBack(t *testing.T, u api.Term) {
	t.Helper()
	text, e := write.Text(u)
	if e != api.OK {
		t.Fatalf("%v: %d", u, e)
	}
	if len(text)+2 > api.MaxText || u.Kind == api.Comp && u.Name == ":-" && len(u.Args) == 1 {
		return
	}
	rs, err := read.All(ops.New(), text+" .")
	if err != nil || len(rs) != 1 || !term.Variant(rs[0].Term, u) {
		t.Fatalf("%.200q: %v, %v", text, rs, err)
	}
}

// P11.2: each name at each place.
func TestNamesBack(t *testing.T) {
	names := slices.Clone(oddNames)
	for _, o := range ops.New().All() {
		names = append(names, o.Name)
	}
	for i := range 256 {
		if i == 9 || i == 10 || i >= 32 && i <= 126 {
			c := string([]byte{byte(i)})
			names = append(names, c, c+c, "a"+c, c+"a", "+"+c, c+"+")
		}
	}
	for _, name := range names {
		n, a := at(name), at("a")
		for _, u := range []api.Term{
			n, co("f", n), co("f", n, a), co("f", a, n), co("f", a, n, a), co("-", n), co("-", n, n), co(name, n), co(name, n, n), co(name, n, n, n), co(name, nu(-1)), co(name, nu(1)), co(name, va(1), va(1)),
			list(n, n), list(n, n, n), list(at("[]"), n), list(at("[]"), n, n), list(co(name, n), co(name, n), co(name, n)), co("{}", n), co(",", n, n), co(":-", n, n), co("=", n, co(name, n)),
		} {
			readBack(t, u)
		}
	}
}

// P11.2: numbers and variables.
func TestNumbersBack(t *testing.T) {
	for _, n := range []int64{1, 2, 9, 10, math.MaxInt64, 0, -1, -10, math.MinInt64 + 1} {
		for _, u := range []api.Term{nu(n), co("f", nu(n), nu(-n)), co("-", nu(n)), co("-", nu(n), nu(n)), list(nu(n), nu(n), nu(-n)), va(max(n, 1)), co("f", va(max(n, 1)), va(1), va(max(n, 1)))} {
			readBack(t, u)
		}
	}
}

// P11.2: terms as great as may be.
func TestGreatBack(t *testing.T) {
	for _, u := range []api.Term{
		tower(at("a"), 99), sized(2000, at("a")), sized(2000, va(1)), sized(2000, nu(-1)), list(at("[]"), copies(99, at("a"))...), list(va(1), copies(99, va(2))...), tower(list(at("[]"), copies(49, at("-"))...), 50),
		at(strings.Repeat("x", 64)), at(strings.Repeat("X", 64)), at(strings.Repeat("'", 64)), at(strings.Repeat("\n", 64)), at(strings.Repeat("+", 64)), co(strings.Repeat(" ", 64), copies(8, at(strings.Repeat("\\", 64)))...), sized(120, at(strings.Repeat("'", 64))),
	} {
		readBack(t, u)
	}
	deep := at("[]")
	for range 49 {
		deep = list(at("[]"), deep)
	}
	readBack(t, deep)
	for range 50 {
		deep = co("-", deep)
	}
	readBack(t, deep)
}

// P11.2: terms made at random.
func TestAnyBack(t *testing.T) {
	r := rand.New(rand.NewSource(13))
	for range 20000 {
		readBack(t, anyTerm(r, 6, anyName))
	}
}

// P11.3: terms have the same text just if they are the same.
func TestSameText(t *testing.T) {
	r := rand.New(rand.NewSource(14))
	few := func(r *rand.Rand) string { return []string{"a", "[]", "_1", "1", "."}[r.Intn(5)] }
	alike := 0
	for _, name := range []func(*rand.Rand) string{few, anyName} {
		var all []api.Term
		var texts []string
		for range 1200 {
			u := anyTerm(r, 3, name)
			text, _ := write.Text(u)
			all, texts = append(all, u), append(texts, text)
		}
		for i := range all {
			for j := range i {
				if (texts[i] == texts[j]) != same(all[i], all[j]) {
					t.Fatalf("%v and %v: %q and %q", all[i], all[j], texts[i], texts[j])
				}
				if texts[i] == texts[j] {
					alike++
				}
			}
		}
	}
	if alike < 1000 {
		t.Errorf("%d pairs are alike", alike)
	}
}

// P11.3: names have the same text just if they are the same, at each place.
func TestSameNames(t *testing.T) {
	seen := map[string]api.Term{}
	for _, name := range oddNames {
		for _, u := range []api.Term{at(name), co(name, at("a")), co("a", at(name)), co(name, at("a"), at("b")), co("f", at(name), at("a")), list(at(name), at("a")), list(at("[]"), at(name))} {
			text, _ := write.Text(u)
			if was, is := seen[text]; is && !same(u, was) {
				t.Errorf("%q twice, of %v and %v", text, was, u)
			}
			seen[text] = u
		}
	}
	for _, n := range []int64{1, 2, 12, 21, -1, -12} {
		for _, u := range []api.Term{nu(n), va(max(n, 1)), co("f", nu(n)), co("f", va(max(n, 1)))} {
			text, _ := write.Text(u)
			if was, is := seen[text]; is && !same(u, was) {
				t.Errorf("%q twice, of %v and %v", text, was, u)
			}
			seen[text] = u
		}
	}
}
