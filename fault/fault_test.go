package fault_test

import (
	"errors"
	"fmt"
	"math"
	"slices"
	"strings"
	"testing"

	"pythia/api"
	"pythia/fault"
)

// around wraps an error in words, so that the first one is the outermost.
func around(e error, words []string) error {
	for i := len(words) - 1; i >= 0; i-- {
		e = fault.Wrap(e, words[i])
	}
	return e
}

var (
	codes  = []api.Errno{api.ErrArg, api.ErrOther, api.ErrSyntax, api.ErrStack, -1, -100, 191, math.MaxInt, math.MinInt}
	places = []int{0, 1, 7, 65536, -1, -20, math.MaxInt, math.MinInt}
	ways   = [][]string{nil, {"file"}, {"file", "clause"}, {""}, {"", ""}, {"a: b", ": "}, {"fault 3 at 4"}, {"\x00\xff", "ä\n"}, {"x", "x", "x"}}
)

// P1.1 and P1.2: a fault tells its code and place, in whatever words.
func TestEveryCallOnFaults(t *testing.T) {
	for _, code := range codes {
		for _, at := range places {
			for _, words := range ways {
				e := around(fault.New(code, at), words)
				if c := fault.Code(e); c != code {
					t.Errorf("Code of %q = %d, not %d", e, c, code)
				}
				if p := fault.At(e); p != at {
					t.Errorf("At of %q = %d, not %d", e, p, at)
				}
				if p := fault.Path(e); !slices.Equal(p, words) {
					t.Errorf("Path of %q = %q, not %q", e, p, words)
				}
				want := fmt.Sprintf("fault %d at %d", code, at)
				for i := len(words) - 1; i >= 0; i-- {
					want = words[i] + ": " + want
				}
				if s := fault.Text(e); s != want || e.Error() != want {
					t.Errorf("Text = %q, Error = %q, not %q", s, e.Error(), want)
				}
			}
		}
	}
}

// P1.1: Is tells just an error's own code.
func TestIs(t *testing.T) {
	asked := append([]api.Errno{api.OK, api.ErrEnd}, codes...)
	for _, code := range codes {
		for _, words := range ways {
			e := around(fault.New(code, 3), words)
			for _, c := range asked {
				if fault.Is(e, c) != (c == code) {
					t.Errorf("Is(%q, %d) = %v", e, c, c != code)
				}
				if c != api.OK && errors.Is(e, fault.New(c, 8)) != (c == code) {
					t.Errorf("errors.Is(%q, a fault %d) = %v", e, c, c != code)
				}
			}
		}
	}
}

// P1.1: nil is no fault, and stays nil in words.
func TestNothing(t *testing.T) {
	for _, at := range places {
		if e := fault.New(api.OK, at); e != nil {
			t.Errorf("New(OK, %d) = %v", at, e)
		}
	}
	for _, what := range []string{"", "x"} {
		if e := fault.Wrap(nil, what); e != nil {
			t.Errorf("Wrap(nil, %q) = %v", what, e)
		}
		if e := fault.Wrap(fault.New(api.OK, 5), what); e != nil {
			t.Errorf("Wrap(New(OK, 5), %q) = %v", what, e)
		}
	}
	if fault.Code(nil) != api.OK || fault.At(nil) != 0 || fault.Text(nil) != "" || len(fault.Path(nil)) != 0 {
		t.Error("nil tells something")
	}
	if !fault.Is(nil, api.OK) || fault.Is(nil, api.ErrOther) || fault.Is(nil, api.ErrArg) {
		t.Error("nil is of another code than OK")
	}
}

// mine is an error of somebody else.
type mine struct{ n int }

func (m *mine) Error() string { return fmt.Sprint("mine ", m.n) }

// P1.1: errors of somebody else, in words and around faults.
func TestSomebodyElse(t *testing.T) {
	other := errors.New("other")
	for _, words := range ways {
		e := around(other, words)
		if fault.Code(e) != api.ErrOther || fault.At(e) != 0 || !slices.Equal(fault.Path(e), words) {
			t.Errorf("%q: %d at %d, %q", e, fault.Code(e), fault.At(e), fault.Path(e))
		}
		if s := fault.Text(e); s != strings.Join(append(slices.Clone(words), "other"), ": ") || s != e.Error() {
			t.Errorf("Text = %q, Error = %q", s, e.Error())
		}
		if !fault.Is(e, api.ErrOther) || fault.Is(e, api.OK) || fault.Is(e, api.ErrArg) {
			t.Errorf("Is of %q", e)
		}
		if !errors.Is(e, other) {
			t.Errorf("%q is not found in its words", other)
		}
	}
	var m *mine
	if e := around(&mine{4}, []string{"a", "b"}); !errors.As(e, &m) || m.n != 4 {
		t.Error("errors.As does not find what is within words")
	}
}

// P1.1 and P1.2: the fault is found through somebody else's wrapping, too.
func TestThroughSomebodyElse(t *testing.T) {
	within := fault.Wrap(fault.New(api.ErrOp, 12), "in")
	e := fault.Wrap(fmt.Errorf("else %w", within), "out")
	if fault.Code(e) != api.ErrOp || fault.At(e) != 12 || !fault.Is(e, api.ErrOp) || fault.Is(e, api.ErrOther) {
		t.Errorf("%d at %d", fault.Code(e), fault.At(e))
	}
	if p := fault.Path(e); !slices.Equal(p, []string{"out", "in"}) {
		t.Errorf("Path = %q", p)
	}
	if s := fault.Text(e); s != "out: else in: fault 90 at 12" || s != e.Error() {
		t.Errorf("Text = %q", s)
	}
	two := fault.Wrap(errors.Join(errors.New("other"), fault.New(api.ErrEnd, 5), within), "two")
	if fault.Code(two) != api.ErrEnd || fault.At(two) != 5 || !fault.Is(two, api.ErrEnd) || fault.Is(two, api.ErrOp) {
		t.Errorf("of several faults: %d at %d", fault.Code(two), fault.At(two))
	}
	if p := fault.Path(two); !slices.Equal(p, []string{"two"}) {
		t.Errorf("of several faults: Path = %q", p)
	}
}

// P1.1: the fault itself is found by errors.As, as the type that it is, and asked by errors.Is.
func TestFaultIsAType(t *testing.T) {
	var f *fault.Fault
	e := around(fault.New(api.ErrSyntax, 7), []string{"file", "clause"})
	if !errors.As(e, &f) || f.Error() != "fault 100 at 7" {
		t.Fatalf("errors.As finds %v", f)
	}
	if !f.Is(fault.New(api.ErrSyntax, 9)) || f.Is(fault.New(api.ErrEnd, 7)) || f.Is(errors.New("fault 100 at 7")) || f.Is(nil) {
		t.Error("Fault.Is")
	}
	if errors.As(around(errors.New("other"), []string{"file"}), &f) {
		t.Error("a fault is found where there is none")
	}
}

// bad is an error that panics at whatever it is asked.
type bad struct{}

func (bad) Error() string { panic("Error") }
func (bad) Unwrap() error { panic("Unwrap") }

// liar is an error that says that it has set what it hasn't.
type liar struct{}

func (liar) Error() string { return "liar" }
func (liar) As(any) bool   { return true }

// P1.1: no call panics, whatever the error does that it is given.
func TestBrokenErrors(t *testing.T) {
	var none *mine
	for _, within := range []error{bad{}, liar{}, none} {
		for _, words := range ways {
			e := around(within, words)
			if fault.Code(e) != api.ErrOther || fault.At(e) != 0 || !fault.Is(e, api.ErrOther) || fault.Is(e, api.ErrArg) {
				t.Errorf("%T: %d at %d", within, fault.Code(e), fault.At(e))
			}
			if p := fault.Path(e); !slices.Equal(p, words) {
				t.Errorf("%T: Path = %q", within, p)
			}
			head := ""
			for _, w := range words {
				head += w + ": "
			}
			if s := fault.Text(e); !strings.HasPrefix(s, head) || len(words) > 0 && e.Error() != s {
				t.Errorf("%T: Text = %q", within, s)
			}
		}
	}
}

// P1.1: wrapped as often as you like.
func TestDeep(t *testing.T) {
	const deep = 1<<16 - 1
	e := fault.New(api.ErrDeep, -3)
	for i := range deep {
		e = fault.Wrap(e, string(rune('a'+i%26)))
	}
	if fault.Code(e) != api.ErrDeep || fault.At(e) != -3 || !fault.Is(e, api.ErrDeep) {
		t.Errorf("%d at %d", fault.Code(e), fault.At(e))
	}
	p := fault.Path(e)
	if len(p) != deep || p[deep-1] != "a" || p[deep-2] != "b" {
		t.Fatalf("%d words", len(p))
	}
	if s := fault.Text(e); s != strings.Join(p, ": ")+": fault 4 at -3" || s != e.Error() {
		t.Errorf("a text of %d bytes", len(s))
	}
}

// P1.3: errors made alike tell the same, and go on to do so whatever is made of one of them.
func TestAlike(t *testing.T) {
	make := func() error { return around(fault.New(api.ErrClause, 31), []string{"program", "term"}) }
	a, b := make(), make()
	c := fault.Wrap(a, "more")
	d := fault.Wrap(a, "less")
	clear(fault.Path(a))
	for _, e := range []error{a, b} {
		if fault.Code(e) != api.ErrClause || fault.At(e) != 31 || fault.Text(e) != "program: term: fault 160 at 31" || !slices.Equal(fault.Path(e), []string{"program", "term"}) {
			t.Errorf("%q", e)
		}
	}
	if fault.Text(c) != "more: "+fault.Text(b) || fault.Text(d) != "less: "+fault.Text(b) {
		t.Errorf("%q, %q", c, d)
	}
	if !errors.Is(fault.New(5, 1), fault.New(5, 2)) || errors.Is(fault.New(5, 1), fault.New(6, 1)) {
		t.Error("faults of one code and another")
	}
}

// P1.3: what Path answers is new memory, spare room too.
func TestPathIsNewMemory(t *testing.T) {
	e := around(fault.New(api.ErrTerm, 1), []string{"a", "b", "c"})
	p := fault.Path(e)
	q := fault.Path(e)
	_ = append(p[:1], "x", "y", "z", "u")
	clear(p[:cap(p)])
	if want := []string{"a", "b", "c"}; !slices.Equal(q, want) || !slices.Equal(fault.Path(e), want) {
		t.Errorf("%q, %q", q, fault.Path(e))
	}
}
