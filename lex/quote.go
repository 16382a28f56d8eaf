package lex

import (
	"pythia/api"
	"pythia/fault"
)

// quoted reads a name in quotes.
func (l *lexer) quoted() (api.Token, error) {
	l.at++
	var name []byte
	for {
		c, ok, err := l.inQuotes()
		if err != nil {
			return api.Token{}, err
		}
		if !ok {
			break
		}
		name = append(name, c)
	}
	token, err := l.named(api.TAtom, string(name))
	token.Quoted = err == nil
	return token, err
}

// char reads a number that is told by a byte: 0' and what the byte is in quotes.
func (l *lexer) char() (api.Token, error) {
	l.at += len("0'")
	c, ok, err := l.inQuotes()
	switch {
	case err != nil:
		return api.Token{}, err
	case !ok && l.isOver():
		return api.Token{}, fault.New(api.ErrOpen, l.from)
	case !ok: // as a \ that begins no escape, a quote that isn't doubled is told where it stands itself
		return api.Token{}, fault.New(api.ErrChar, l.at-1)
	}
	return api.Token{Kind: api.TInt, Text: l.read(), Int: int64(c)}, nil
}

// inQuotes reads what stands for one byte in quotes, and answers that byte; or a quote that isn't doubled, and answers false.
func (l *lexer) inQuotes() (byte, bool, error) {
	if l.isOver() {
		return 0, false, fault.New(api.ErrOpen, l.from)
	}
	switch c := l.text[l.at]; {
	case c == '\\':
		return l.escape()
	case c == '\'':
		if !l.begins("''") {
			l.at++
			return 0, false, nil
		}
		l.at++
		fallthrough // the second one stands for itself
	case c >= 32 && c <= 126:
		l.at++
		return c, true, nil
	}
	return 0, false, fault.New(api.ErrChar, l.at)
}

// escape reads an escape, and answers the byte that it stands for.
func (l *lexer) escape() (byte, bool, error) {
	behind := l.text[l.at+1:]
	if behind == "" {
		return 0, false, fault.New(api.ErrOpen, l.from)
	}
	c := behind[0]
	switch c {
	case 'n':
		c = '\n'
	case 't':
		c = '\t'
	case '\\', '\'', '"':
	default:
		return 0, false, fault.New(api.ErrEscape, l.at)
	}
	l.at += 2
	return c, true, nil
}
