package kernel_test

import (
	"math"
	"strconv"
	"strings"
	"testing"

	"pythia/api"
	"pythia/base"
	"pythia/kernel"
)

// listText is the numbers from 1 to n as a list, or a list of lists of 50.
func listText(n int) string {
	var parts []string
	for from := 1; from <= n; from += 50 {
		var ids []string
		for id := from; id <= min(from+49, n); id++ {
			ids = append(ids, strconv.Itoa(id))
		}
		parts = append(parts, "["+strings.Join(ids, ",")+"]")
	}
	switch len(parts) {
	case 0:
		return "[]"
	case 1:
		return parts[0]
	}
	return "[" + strings.Join(parts, ",") + "]"
}

// P20.1: what was read is noted as a list, of more than 50 as a list of lists.
func TestListed(t *testing.T) {
	k := roomyKernel(t, 1)
	does(t, k, 1, `clause(p, B)`, `no`, `'$read'(/(p,0),[]) = no`)
	for n := 1; n <= api.MaxClause; n++ {
		does(t, k, 1, `assertz(p)`, `yes`, `'$add'(:-(p,true),`+strconv.Itoa(n)+`)`)
		if n%50 < 3 || n%50 > 47 {
			does(t, k, 1, `p`, strings.Repeat(`; :-(p,true)`, n)[2:], `'$read'(/(p,0),`+listText(n)+`)`)
			does(t, k, 1, `clause(p, x)`, `no`, `'$read'(/(p,0),`+listText(n)+`)`)
		}
	}
	does(t, k, 1, `retract(p)`, `retract(p)`, `'$read'(/(p,0),`+listText(200)+`)`, `'$cut'(/(p,0),1)`)
}

// P20.1: Log, Since and Len: below 0, within, and beyond the end; places are how many entries are ahead.
func TestSince(t *testing.T) {
	k := roomyKernel(t, 2)
	if k.Len() != 0 || k.Log() != nil || k.Since(0) != nil || k.Since(-1) != nil || k.Since(1) != nil {
		t.Error("a log of nothing")
	}
	does(t, k, 1, `assertz(p(1))`, `yes`, `'$add'(:-(p(1),true),1)`)
	does(t, k, 2, `retract(p(X))`, `retract(p(1))`, `'$read'(/(p,1),[1])`, `'$cut'(/(p,1),1)`)
	settles(t, k, 2, `out(x)`, `yes`)
	settles(t, k, 1, `mutex_lock(1)`, noneBall(`mutex`, `1`))
	ends(t, k, 1, at("true"))
	settles(t, k, 2, `thread_join(1, S)`, `thread_join(1,true)`)
	all := []string{
		`1 '$add'(:-(p(1),true),1) = yes`,
		`2 '$read'(/(p,1),[1]) = yes`,
		`2 '$cut'(/(p,1),1) = yes`,
		`2 out(x) = yes`,
		`1 mutex_lock(1) = ` + noneBall(`mutex`, `1`),
		`1 '$end'(true) = yes`,
		`2 thread_join(1,_1) = thread_join(1,true)`,
	}
	for _, n := range []int{math.MinInt, -7, -1, 0, 1, 2, 6, 7, 8, 100, math.MaxInt} {
		from := min(max(n, 0), 7)
		got := k.Since(n)
		if entryTexts(got) != strings.Join(all[from:], "\n") {
			t.Errorf("Since(%d): %s", n, entryTexts(got))
		}
		for i, e := range got {
			if e.Pick != from+i {
				t.Errorf("Since(%d): entry %d has the place %d", n, i, e.Pick)
			}
		}
	}
	if k.Len() != 7 || entryTexts(k.Log()) != strings.Join(all, "\n") {
		t.Errorf("Log: %s", entryTexts(k.Log()))
	}
}

// stepped steps a job beside operations on a DB that has seen the same, and fails, if one is over ahead of the other, or if anything is noted but what has taken effect at each step, and at the last one the job itself, if its operation has an error.
func stepped(t *testing.T, k *kernel.Kernel, j *kernel.Job, ops ...func() *base.Op) {
	t.Helper()
	for i, begin := range ops {
		o := begin()
		for over := false; !over; {
			was, done := k.Len(), o.Done()
			over = o.Step()
			lacks := over && o.Answer().Err != api.OK
			last := lacks || over && i == len(ops)-1
			if j.Step() != last || j.Over() != last {
				t.Fatalf("operation %d: over %v, the job's %v", i, over, j.Over())
			}
			want := was
			if o.Done() && !done {
				want++
			}
			if lacks {
				want++
			}
			if k.Len() != want {
				t.Fatalf("operation %d: %d entries, not %d", i, k.Len(), want)
			}
			if lacks {
				return
			}
		}
	}
}

// P20.1: a step of a job of the DB is one of an operation's, from the first to the last; entries are noted at the step at which it takes effect.
func TestStepsOfTheDB(t *testing.T) {
	for n := range 60 {
		k := roomyKernel(t, 1)
		d, _ := base.New(api.MaxCells, api.MaxLimbo)
		p := pred("p", 1)
		clause := func(u api.Term) api.Clause { c, _ := base.Clause(co("p", u)); return c }
		for i := range n {
			u := nu(int64(i))
			stepped(t, k, begun(t, k, 1, co("assertz", co("p", u))), func() *base.Op { return d.Assert(1, clause(u), false) })
		}
		stepped(t, k, begun(t, k, 1, co("asserta", co("p", at("a")))), func() *base.Op { return d.Assert(1, clause(at("a")), true) })
		stepped(t, k, begun(t, k, 1, co("p", va(1))), func() *base.Op { return d.All(1, p) })
		stepped(t, k, begun(t, k, 1, co("clause", co("p", va(1)), va(2))), func() *base.Op { return d.All(1, p) })
		stepped(t, k, begun(t, k, 1, co("retract", co("p", at("b")))), func() *base.Op { return d.All(1, p) })
		stepped(t, k, begun(t, k, 1, co("retract", co("p", va(1)))), func() *base.Op { return d.All(1, p) }, func() *base.Op { return d.Erase(1, p, int64(n+1)) })
		stepped(t, k, begun(t, k, 1, co("clause", at("p"), va(1))), func() *base.Op { return d.All(1, pred("p", 0)) })
	}
}

// P20.2: a job whose operation finds no room is noted itself, with its ball, at the step at which it is over and not ahead of it; so it is of each kind of goal that may find none, in rooms of every size and with every bound.
func TestNoRoomStepByStep(t *testing.T) {
	found := map[string]int{}
	for room := 60; room < 90; room++ {
		for limbo := range 3 {
			lackingRoom(t, api.Conf{Threads: 1, Cells: room, Limbo: limbo}, found)
		}
	}
	for _, name := range []string{"assertz", "asserta", "retract"} {
		if found[name] < 10 {
			t.Errorf("%s has found no room %d times", name, found[name])
		}
	}
}

// lackingRoom lets goals that change clauses be done in some room, and counts those that find none.
func lackingRoom(t *testing.T, c api.Conf, found map[string]int) {
	t.Helper()
	k := made(t, c, 1)
	d, _ := base.New(c.Cells, c.Limbo)
	p := pred("p", 2)
	for i := range 12 {
		u := co("p", va(9), nu(int64(i)))
		added, _ := base.Clause(u)
		name, front := "assertz", i%3 == 1
		if front {
			name = "asserta"
		}
		stepped(t, k, begun(t, k, 1, co(name, u)), func() *base.Op { return d.Assert(1, added, front) })
		found[name] += lacked(t, k, co(name, u))
		there := d.List(p)
		if i%4 != 3 || len(there) == 0 {
			continue
		}
		for _, taken := range []api.Term{co("p", va(4), va(3)), co(":-", co("p", va(8), va(2)), va(7))} {
			g := co("retract", taken)
			stepped(t, k, begun(t, k, 1, g), func() *base.Op { return d.All(1, p) }, func() *base.Op { return d.Erase(1, p, there[0].Id) })
			if found[g.Name] += lacked(t, k, g); len(d.List(p)) < len(there) {
				break
			}
		}
	}
}

// lacked fails, if the log's last entry tells a ball of another goal, or another ball than that there is no room; it answers 1, if it tells this one.
func lacked(t *testing.T, k *kernel.Kernel, g api.Term) int {
	t.Helper()
	all := k.Since(k.Len() - 1)
	if len(all) != 1 || all[0].Reply.Ball.Kind == 0 {
		return 0
	}
	want := `1 ` + text(renamed(g)) + ` = ` + resBall(`cells`)
	if got := entryText(all[0]); got != want {
		t.Fatalf("noted is %s, not %s", got, want)
	}
	return 1
}

// P20.2: a retract that was beaten and finds no room for the next clause: behind what was noted of its operations, and behind what others have done meanwhile.
func TestNoRoomBehindOthers(t *testing.T) {
	k := made(t, api.Conf{Threads: 2, Cells: 70, Limbo: 8}, 2)
	does(t, k, 1, `assertz(p(1))`, `yes`, `'$add'(:-(p(1),true),1)`)
	does(t, k, 1, `assertz((p(2) :- a))`, `yes`, `'$add'(:-(p(2),a),2)`)
	j := begun(t, k, 1, goalOf(t, `retract((p(X) :- Y))`))
	stepTill := func(noted string) {
		t.Helper()
		for was := k.Len(); k.Len() == was; {
			j.Step()
		}
		if got := entryTexts(k.Since(k.Len() - 1)); got != noted {
			t.Fatalf("noted is %s, not %s", got, noted)
		}
	}
	stepTill(`1 '$read'(/(p,1),[1,2]) = yes`)
	does(t, k, 2, `retract(p(1))`, `retract(p(1))`, `'$read'(/(p,1),[1,2])`, `'$cut'(/(p,1),1)`)
	stepTill(`1 '$cut'(/(p,1),1) = no`)
	for i, q := range []string{`q`, `r`, `s`, `u`} {
		does(t, k, 2, `assertz(`+q+`)`, `yes`, `'$add'(:-(`+q+`,true),`+strconv.Itoa(i+3)+`)`)
	}
	does(t, k, 2, `asserta(v)`, resBall(`cells`))
	for was := k.Len(); !j.Step(); was++ {
		if k.Len() != was {
			t.Fatalf("noted ahead of its end:\n%s", entryTexts(k.Since(was)))
		}
		settles(t, k, 2, `out(x)`, `yes`)
	}
	if got := entryTexts(k.Since(k.Len() - 1)); got != `1 retract(:-(p(_1),_2)) = `+resBall(`cells`) || replyText(j.Reply()) != resBall(`cells`) {
		t.Errorf("%s\n%s", got, replyText(j.Reply()))
	}
	if got := entryTexts(k.Since(k.Len() - 2)[:1]); got != `2 out(x) = yes` {
		t.Errorf("ahead of its end is noted %s", got)
	}
	does(t, k, 2, `p(X)`, `:-(p(2),a)`, `'$read'(/(p,1),[2])`)
}

// P20.2: each ball of an operation by hand, with the goal as it was asked, renamed; and the job's thread has none under way any more.
func TestNoRoomByHand(t *testing.T) {
	for goal, want := range map[string]string{
		`assertz('')`:               `assertz('')`,
		`asserta('')`:               `asserta('')`,
		`assertz(p(a))`:             `assertz(p(a))`,
		`asserta((p(B, A) :- A))`:   `asserta(:-(p(_1,_2),_2))`,
		`assertz((p :- q, r(C,D)))`: `assertz(:-(p,','(q,r(_1,_2))))`,
	} {
		k := made(t, api.Conf{Cells: 60}, 1)
		j := begun(t, k, 1, goalOf(t, goal))
		run(t, j)
		if got := entryTexts(k.Log()); got != `1 `+want+` = `+resBall(`cells`) || !same(k.Asks(1), api.Term{}) {
			t.Errorf("%s: %s", goal, got)
		}
		if e := k.Log()[0]; e.Pick != 0 || !sameReply(e.Reply, j.Reply()) {
			t.Errorf("%s: %v", goal, e)
		}
		does(t, k, 1, `clause(p, B)`, `no`, `'$read'(/(p,0),[]) = no`)
	}
}
