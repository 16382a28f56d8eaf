package ops

import "pythia/api"

// maxPrec is the greatest precedence.
const maxPrec = 1200

// always are the operators that there always are: a precedence, a type, and names with blanks between.
var always = [...]struct {
	prec, kind int
	names      string
}{
	{1200, api.XFX, `:- -->`},
	{1200, api.FX, `:- ?-`},
	{1100, api.XFY, `;`},
	{1050, api.XFY, `->`},
	{1000, api.XFY, `,`},
	{900, api.FY, `\+`},
	{700, api.XFX, `= \= == \== @< @=< @> @>= =.. is =:= =\= < =< > >=`},
	{500, api.YFX, `+ - /\ \/`},
	{400, api.YFX, `* / // rem mod << >>`},
	{200, api.XFX, `**`},
	{200, api.XFY, `^`},
	{200, api.FY, `- \`},
}

func isType(kind int) bool { return kind >= api.XFX && kind <= api.YF }

func isPrefix(kind int) bool { return kind == api.FY || kind == api.FX }

func isPostfix(kind int) bool { return kind == api.XF || kind == api.YF }

// rank puts prefix operators ahead of others.
func rank(kind int) int {
	if isPrefix(kind) {
		return 0
	}
	return 1
}

// isReserved tells whether a name is for the grammar alone.
func isReserved(name string) bool {
	switch name {
	case ",", "|", "[]", "{}":
		return true
	}
	return false
}

// Sides are the greatest precedences of an operator's arguments.
func Sides(o api.Op) (left, right int) {
	const none = -1
	if o.Prec < 1 || o.Prec > maxPrec {
		return none, none
	}
	x, y := o.Prec-1, o.Prec
	switch o.Type {
	case api.XFX:
		return x, x
	case api.XFY:
		return x, y
	case api.YFX:
		return y, x
	case api.FY:
		return none, y
	case api.FX:
		return none, x
	case api.XF:
		return x, none
	case api.YF:
		return y, none
	}
	return none, none
}
