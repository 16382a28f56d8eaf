package kernel_test

import (
	"math"
	"strconv"
	"strings"
	"testing"

	"pythia/api"
	"pythia/base"
	"pythia/kernel"
)

// listText is the numbers from 1 to n as a list, or a list of lists of 50.
func listText(n int) string {
	var parts []string
	for from := 1; from <= n; from += 50 {
		var ids []string
		for id := from; id <= min(from+49, n); id++ {
			ids = append(ids, strconv.Itoa(id))
		}
		parts = append(parts, "["+strings.Join(ids, ",")+"]")
	}
	switch len(parts) {
	case 0:
		return "[]"
	case 1:
		return parts[0]
	}
	return "[" + strings.Join(parts, ",") + "]"
}

// P20.1: what was read is noted as a list, of more than 50 as a list of lists.
func TestListed(t *testing.T) {
	k := roomyKernel(t, 1)
	does(t, k, 1, `clause(p, B)`, `no`, `'$read'(/(p,0),[]) = no`)
	for n := 1; n <= api.MaxClause; n++ {
		does(t, k, 1, `assertz(p)`, `yes`, `'$add'(:-(p,true),`+strconv.Itoa(n)+`)`)
		if n%50 < 3 || n%50 > 47 {
			does(t, k, 1, `p`, strings.Repeat(`; :-(p,true)`, n)[2:], `'$read'(/(p,0),`+listText(n)+`)`)
			does(t, k, 1, `clause(p, x)`, `no`, `'$read'(/(p,0),`+listText(n)+`)`)
		}
	}
	does(t, k, 1, `retract(p)`, `retract(p)`, `'$read'(/(p,0),`+listText(200)+`)`, `'$cut'(/(p,0),1)`)
}

// P20.1: Log, Since and Len: below 0, within, and beyond the end; places are how many entries are ahead.
func TestSince(t *testing.T) {
	k := roomyKernel(t, 2)
	if k.Len() != 0 || k.Log() != nil || k.Since(0) != nil || k.Since(-1) != nil || k.Since(1) != nil {
		t.Error("a log of nothing")
	}
	does(t, k, 1, `assertz(p(1))`, `yes`, `'$add'(:-(p(1),true),1)`)
	does(t, k, 2, `retract(p(X))`, `retract(p(1))`, `'$read'(/(p,1),[1])`, `'$cut'(/(p,1),1)`)
	settles(t, k, 2, `out(x)`, `yes`)
	settles(t, k, 1, `mutex_lock(1)`, noneBall(`mutex`, `1`))
	ends(t, k, 1, at("true"))
	settles(t, k, 2, `thread_join(1, S)`, `thread_join(1,true)`)
	all := []string{
		`1 '$add'(:-(p(1),true),1) = yes`,
		`2 '$read'(/(p,1),[1]) = yes`,
		`2 '$cut'(/(p,1),1) = yes`,
		`2 out(x) = yes`,
		`1 mutex_lock(1) = ` + noneBall(`mutex`, `1`),
		`1 '$end'(true) = yes`,
		`2 thread_join(1,_1) = thread_join(1,true)`,
	}
	for _, n := range []int{math.MinInt, -7, -1, 0, 1, 2, 6, 7, 8, 100, math.MaxInt} {
		from := min(max(n, 0), 7)
		got := k.Since(n)
		if entryTexts(got) != strings.Join(all[from:], "\n") {
			t.Errorf("Since(%d): %s", n, entryTexts(got))
		}
		for i, e := range got {
			if e.Pick != from+i {
				t.Errorf("Since(%d): entry %d has the place %d", n, i, e.Pick)
			}
		}
	}
	if k.Len() != 7 || entryTexts(k.Log()) != strings.Join(all, "\n") {
		t.Errorf("Log: %s", entryTexts(k.Log()))
	}
}

// stepped steps a job beside an operation on a DB that has seen the same, and fails, if one is over ahead of the other; it answers how many entries there were behind each step.
func stepped(t *testing.T, k *kernel.Kernel, j *kernel.Job, ops ...func() *base.Op) {
	t.Helper()
	for i, begin := range ops {
		o := begin()
		for over := false; !over; {
			was, done := k.Len(), o.Done()
			over = o.Step()
			last := over && i == len(ops)-1
			if j.Step() != last || j.Over() != last {
				t.Fatalf("operation %d: over %v, the job's %v", i, over, j.Over())
			}
			want := was
			if o.Done() && !done {
				want++
			}
			if k.Len() != want {
				t.Fatalf("operation %d: %d entries, not %d", i, k.Len(), want)
			}
		}
	}
}

// P20.1: a step of a job of the DB is one of an operation's, from the first to the last; entries are noted at the step at which it takes effect.
func TestStepsOfTheDB(t *testing.T) {
	for n := range 60 {
		k := roomyKernel(t, 1)
		d, _ := base.New(api.MaxCells, api.MaxLimbo)
		p := pred("p", 1)
		clause := func(u api.Term) api.Clause { c, _ := base.Clause(co("p", u)); return c }
		for i := range n {
			u := nu(int64(i))
			stepped(t, k, begun(t, k, 1, co("assertz", co("p", u))), func() *base.Op { return d.Assert(1, clause(u), false) })
		}
		stepped(t, k, begun(t, k, 1, co("asserta", co("p", at("a")))), func() *base.Op { return d.Assert(1, clause(at("a")), true) })
		stepped(t, k, begun(t, k, 1, co("p", va(1))), func() *base.Op { return d.All(1, p) })
		stepped(t, k, begun(t, k, 1, co("clause", co("p", va(1)), va(2))), func() *base.Op { return d.All(1, p) })
		stepped(t, k, begun(t, k, 1, co("retract", co("p", at("b")))), func() *base.Op { return d.All(1, p) })
		stepped(t, k, begun(t, k, 1, co("retract", co("p", va(1)))), func() *base.Op { return d.All(1, p) }, func() *base.Op { return d.Erase(1, p, int64(n+1)) })
		stepped(t, k, begun(t, k, 1, co("clause", at("p"), va(1))), func() *base.Op { return d.All(1, pred("p", 0)) })
	}
}
