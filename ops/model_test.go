package ops_test

import (
	"math/rand"
	"slices"
	"strings"
	"testing"

	"pythia/api"
	"pythia/ops"
)

// model is a table as plain as can be: operators in the order in which they came.
type model []api.Op

// sortOf is what a name may be one of: ahead, or behind (as infix, as postfix).
func sortOf(kind int) string {
	return []string{"", "infix", "infix", "infix", "prefix", "prefix", "postfix", "postfix"}[kind]
}

// find is where the operator of some name and one of some sorts is; -1, if there is none.
func (m model) find(name string, sorts ...string) int {
	return slices.IndexFunc(m, func(o api.Op) bool { return o.Name == name && slices.Contains(sorts, sortOf(o.Type)) })
}

func (m *model) add(o api.Op) api.Errno {
	if o.Type < 1 || o.Type > 7 || o.Prec < 0 || o.Prec > 1200 {
		return api.ErrArg
	}
	if o.Name == "" || len(o.Name) > 64 {
		return api.ErrLong
	}
	other := map[string]string{"infix": "postfix", "postfix": "infix"}[sortOf(o.Type)]
	if slices.Contains([]string{",", "|", "[]", "{}"}, o.Name) || m.find(o.Name, other) >= 0 {
		return api.ErrOp
	}
	at := m.find(o.Name, sortOf(o.Type))
	switch {
	case o.Prec == 0 && at >= 0:
		*m = slices.Delete(*m, at, at+1)
	case o.Prec == 0:
	case at >= 0:
		(*m)[at] = o
	case len(*m) == 200:
		return api.ErrMany
	default:
		*m = append(*m, o)
	}
	return api.OK
}

func (m model) ask(name string, sorts ...string) (api.Op, bool) {
	if at := m.find(name, sorts...); at >= 0 {
		return m[at], true
	}
	return api.Op{}, false
}

func (m model) all() []api.Op {
	all := slices.Clone(m)
	slices.SortFunc(all, func(a, b api.Op) int {
		if a.Name == b.Name {
			return -strings.Compare(sortOf(a.Type), sortOf(b.Type)) // "prefix" is the greatest
		}
		return strings.Compare(a.Name, b.Name)
	})
	return all
}

// anyOp is an operator, now and then a wrong one.
func anyOp(r *rand.Rand, names []string) api.Op {
	kind := 1 + r.Intn(7)
	prec := []int{0, 0, 1, 200, 1200, 1 + r.Intn(1200)}[r.Intn(6)]
	if r.Intn(40) == 0 {
		kind = []int{0, 8, -3}[r.Intn(3)]
	}
	if r.Intn(40) == 0 {
		prec = []int{-1, 1201}[r.Intn(2)]
	}
	return op(names[r.Intn(len(names))], kind, prec)
}

// P9.1, P9.2: tables and their clones beside the model, in any order of calls.
func TestAnyCalls(t *testing.T) {
	few := []string{"a", "b", "-", "\\+", "is", ",", "|", "[]", "{}", "", strings.Repeat("x", 64), strings.Repeat("x", 65), "[", "{", "ab"}
	many := slices.Clone(few)
	for i := range 26 {
		for j := range 8 {
			many = append(many, string([]byte{byte('a' + i), byte('a' + j)}))
		}
	}
	for seed := range int64(30) {
		r := rand.New(rand.NewSource(seed))
		names := few
		if seed%2 == 1 {
			names = many
		}
		tables, models := []*ops.Table{ops.New()}, []model{atFirst()}
		for range 2000 {
			i := r.Intn(len(tables))
			if r.Intn(200) == 0 && len(tables) < 5 {
				tables, models = append(tables, tables[i].Clone()), append(models, slices.Clone(models[i]))
			}
			o := anyOp(r, names)
			added(t, tables[i], o, models[i].add(o))
			name := names[r.Intn(len(names))]
			p, isPrefix := tables[i].Prefix(name)
			if want, is := models[i].ask(name, "prefix"); isPrefix != is || p != want {
				t.Fatalf("Prefix(%q) = %v, not %v", name, p, want)
			}
			a, isAfter := tables[i].After(name)
			if want, is := models[i].ask(name, "infix", "postfix"); isAfter != is || a != want {
				t.Fatalf("After(%q) = %v, not %v", name, a, want)
			}
			if r.Intn(20) == 0 {
				for j := range tables {
					has(t, tables[j], models[j].all())
				}
			}
		}
	}
}
