package world_test

import (
	"math"
	"math/rand"
	"strconv"
	"strings"
	"testing"

	"pythia/api"
	"pythia/arith"
	"pythia/ops"
	"pythia/read"
	"pythia/term"
	"pythia/world"
)

// P1: every call ends at all numbers, in a world of any Conf.
func TestAnyNumbers(t *testing.T) {
	numbers := []int{math.MinInt, -1 << 32, -1, 0, 1, 2, 3, 8, 9, 60, 1000, api.MaxPicks, api.MaxCells + 1, 1 << 32, math.MaxInt}
	r := rand.New(rand.NewSource(1))
	for range 400 {
		c := api.Conf{Limits: api.Limits{Heap: one(r, numbers...), Stack: one(r, numbers...), Trail: one(r, numbers...)}, Threads: one(r, numbers...), Cells: one(r, numbers...), Limbo: one(r, numbers...)}
		w, e := world.New(c, `p(1). p(2). q(X) :- p(X), assertz(d(X)), retract(d(Y)), out(Y), X > 1.`, []string{`q(X), message_queue_create(Q, -1), thread_get_message(Q, X).`})
		if (w == nil) == (e == nil) || (w == nil) != (c.Cells < 60) {
			t.Fatalf("New(%v): %v", c, e)
		}
		if w == nil {
			continue
		}
		for range 10 {
			n := one(r, numbers...)
			w.Pick(n)
			w.Play(n, one(r, numbers...))
			w.Rest(min(n, 300))
			for _, n := range numbers {
				if n != 1 && (w.State(n) != 0 || !isBlank(w, n)) {
					t.Fatalf("thread %d: %q", n, w.Told(n))
				}
			}
		}
		if w.Faults() != 0 || w.Threads() != 1 {
			t.Fatalf("%v: %s", c, view(w))
		}
	}
}

// P2, P22.5: what a world tells hangs on what it was told, and on its picks, alone: some worlds, told and picked the same again and again, with others between.
func TestSameAgain(t *testing.T) {
	for seed := range int64(100) {
		r := rand.New(rand.NewSource(seed))
		program, goals := anyProgram(r), []string{anyGoal(r), anyGoal(r), anyGoal(r)}
		c := conf()
		c.Cells, c.Limbo = one(r, 70, 100, 2000), one(r, 0, 1, 9)
		var picks []int
		for range 300 {
			picks = append(picks, r.Intn(6))
		}
		first := ""
		for i := range 4 {
			w := madeOver(t, c, program, goals...)
			w.Play(picks...)
			if got := view(w); i == 0 {
				first = got
			} else if got != first {
				t.Fatalf("seed %d\n%s\nnot\n%s", seed, got, first)
			}
			madeOver(t, c, anyProgram(r), anyGoal(r)).Rest(100)
		}
	}
}

// P3: what is written is read back: a line's text, and an answer's, is that of a variant of the term.
func TestReadBack(t *testing.T) {
	r := rand.New(rand.NewSource(3))
	for range 500 {
		var texts []string
		for range 5 {
			texts = append(texts, one(r, termText(anyTerm(r, 4)), termText(anyBody(r, 2)), `'it''s'`, `'a\nb\t'`, `[]`, `{}`, `'[]'(a)`, `{a, B}`, `[a, B|C]`, `[[], [{}]]`, `- 1`, `-1`, `- a`, `a - -1`, `','`, `'|'`, `(a , b)`, `(:- , a)`,
				`0'a`, `'\\'`, `\+ a`, `(a :- b, \+ c)`, `1 - (2 - 3)`, `'' + ''`, `9223372036854775807`, `-9223372036854775807`, `'.'(a, '.'(b))`, `f(;, !, |)`, `f(;, !)`))
			if _, e := read.All(ops.New(), texts[len(texts)-1]+" ."); e != nil {
				texts = texts[:len(texts)-1]
			}
		}
		w := made(t, ``, `out((`+strings.Join(append(texts, "end"), `)), out((`)+`))`)
		rests(t, w)
		lines := strings.Split(strings.TrimSuffix(w.Told(1), "\n"), "\n")
		terms := append(w.Lines(1), w.Last(1).Term)
		if len(lines) != len(terms) || len(terms) != len(texts)+2 {
			t.Fatalf("%q tells %q", texts, lines)
		}
		for i, line := range lines {
			if back := goalOf(t, strings.TrimPrefix(line, "yes ")); !term.Variant(back, terms[i]) {
				t.Fatalf("%s is read back as %s", line, termText(back))
			}
			if i < len(texts) && !term.Variant(goalOf(t, texts[i]), terms[i]) {
				t.Fatalf("%s is told as %s", texts[i], line)
			}
		}
	}
}

// P3: threads tell the order of terms as layer 7 does, what terms are worth as layer 12 does, and which can be made the same as layer 7.
func TestOrderAndWorth(t *testing.T) {
	texts := strings.Fields(`-3 0 7 9223372036854775807 a b ab 'A' [] '' f(a) f(b) g(a) f(a,a) [1,2] [1] 1+2 2*3-1 7//0 -7//2 mod(-7,2) a+1 1<<63 2**70 -(0) abs(-9223372036854775807-1) f(f(a)) min(3,max(4,5)) 1-b`)
	for _, a := range texts {
		for _, b := range texts {
			one, other := goalOf(t, a), goalOf(t, b)
			want := map[int]string{-1: "<", 0: "=", 1: ">"}[term.Order(one, other)] + "\n"
			if _, ok, _ := term.Solve(one, other); ok {
				want += "same\n"
			}
			sum := co("+", one, other)
			if worth, ball, ok := arith.Eval(sum); ok {
				want += strconv.FormatInt(worth, 10) + "\n"
			} else {
				want += termText(ball) + "\n"
			}
			w := made(t, ``, `compare(O, (`+a+`), (`+b+`)), out(O), ((`+a+`) = (`+b+`) -> out(same) ; true), catch((X is (`+a+`) + (`+b+`), out(X)), E, out(E)), fail`)
			rests(t, w)
			tells(t, w, 1, want+"no\n")
		}
	}
}

// P4, P6: threads that count one number up by clauses that they share: with a mutex around none is lost, in whatever order; nor is one, where each takes the number away before it puts it back.
func TestCounting(t *testing.T) {
	for _, c := range []struct{ program, goal string }{
		{`up(0). up(N) :- mutex_lock(1), retract(c(X)), Y is X + 1, assertz(c(Y)), mutex_unlock(1), M is N - 1, up(M).`, `up(5)`},
		{`up(0). up(N) :- take(X), Y is X + 1, assertz(c(Y)), M is N - 1, up(M). take(X) :- retract(c(X)), !. take(X) :- take(X).`, `up(5)`},
		{`up(0). up(N) :- thread_get_message(1, X), Y is X + 1, thread_send_message(1, Y), M is N - 1, up(M).`, `up(5)`},
	} {
		program := c.program + ` main :- mutex_create(M), message_queue_create(Q, 1), thread_send_message(1, 0), assertz(c(0)), start(4), end(5), ends.
			start(0). start(N) :- thread_create(` + c.goal + `, T), M is N - 1, start(M).
			end(1). end(N) :- thread_join(N, S), out(S), M is N - 1, end(M). ends :- c(X), thread_get_message(1, Y), Z is X + Y, out(Z).`
		for seed := range int64(60) {
			r := rand.New(rand.NewSource(seed))
			w := made(t, program, `main`)
			for range 20000 {
				w.Pick(1 + r.Intn(5))
			}
			rests(t, w)
			tells(t, w, 1, "true\ntrue\ntrue\ntrue\n20\nyes main\n")
			if w.Faults() != 0 {
				t.Fatalf("%d faults", w.Faults())
			}
		}
	}
}

// P4: what comes is had once: messages and clauses that threads take away at once.
func TestHadOnce(t *testing.T) {
	r := rand.New(rand.NewSource(4))
	beaten := 0
	for range 150 {
		w := made(t, `put(0). put(N) :- assertz(d(N)), thread_send_message(1, N), M is N - 1, put(M).
			take(K, L) :- thread_get_message(1, X), (X == end -> L = K ; retract(d(Y)) -> take([d(Y), m(X)|K], L) ; take([m(X)|K], L)).
			there :- catch((thread_peek_message(1, X) ; true), E, fail).
			taker :- there, take([], L), out(L). taker :- taker.`,
			`message_queue_create(Q, 2), put(9), thread_send_message(Q, end), thread_send_message(Q, end), thread_send_message(Q, end)`, `taker`, `taker`, `taker`)
		for range 3000 {
			w.Pick(1 + r.Intn(4))
		}
		if !w.Rest(3000) || w.Faults() != 0 {
			t.Fatalf("no rest, %d faults", w.Faults())
		}
		states(t, w, 3, 3, 3, 3)
		had := map[string]int{}
		for n := 2; n <= 4; n++ {
			items, _ := term.Items(w.Lines(n)[0])
			for _, item := range items {
				had[termText(item)]++
			}
		}
		for n := 1; n <= 9; n++ {
			number := strconv.Itoa(n)
			if had["m("+number+")"] != 1 || had["d("+number+")"] > 1 {
				t.Fatalf("%s was had %d times as a message, %d times as a clause:\n%s", number, had["m("+number+")"], had["d("+number+")"], view(w))
			}
			beaten += 1 - had["d("+number+")"]
		}
	}
	if beaten > 150 {
		t.Errorf("%d clauses were left", beaten)
	}
}
