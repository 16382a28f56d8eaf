package lex

import (
	"errors"
	"strconv"
	"strings"

	"pythia/api"
	"pythia/fault"
)

// lexer reads a text from the left to the right.
type lexer struct {
	text string
	from int // where the token under way begins
	at   int // the first byte that isn't read yet
}

func (l *lexer) isOver() bool { return l.at == len(l.text) }

// begins tells whether this stands next in the text.
func (l *lexer) begins(what string) bool { return strings.HasPrefix(l.text[l.at:], what) }

// read is what has been read of the token under way; a copy, since a piece would hold on to the whole text.
func (l *lexer) read() string { return strings.Clone(l.text[l.from:l.at]) }

// skip reads blanks and remarks.
func (l *lexer) skip() error {
	for !l.isOver() {
		switch {
		case isBlank(l.text[l.at]):
			l.at++
		case l.begins("%"):
			line, _, _ := strings.Cut(l.text[l.at:], "\n")
			l.at += len(line)
		case l.begins("/*"):
			inside, _, ended := strings.Cut(l.text[l.at+len("/*"):], "*/")
			if !ended {
				return fault.New(api.ErrOpen, l.at)
			}
			l.at += len("/*") + len(inside) + len("*/")
		default:
			return nil
		}
	}
	return nil
}

// token reads a token.
func (l *lexer) token() (api.Token, error) {
	switch c := l.text[l.at]; {
	case isSmall(c):
		return l.letters(api.TAtom)
	case isCapital(c):
		return l.letters(api.TVar)
	case l.begins("0'"):
		return l.char()
	case isDigit(c):
		return l.digits()
	case isPunct(c):
		return l.single(api.TPunct)
	case c == '!', c == ';':
		return l.single(api.TAtom)
	case c == '\'':
		return l.quoted()
	case l.isEnd():
		return l.single(api.TEnd)
	case Sign(c):
		return l.signs()
	}
	return api.Token{}, fault.New(api.ErrChar, l.at)
}

// isEnd tells whether a full stop stands next.
func (l *lexer) isEnd() bool {
	if !l.begins(".") {
		return false
	}
	behind := l.text[l.at+1:]
	return behind == "" || isBlank(behind[0]) || behind[0] == '%'
}

// single reads a token of one byte.
func (l *lexer) single(kind int) (api.Token, error) {
	l.at++
	return api.Token{Kind: kind, Text: l.read()}, nil
}

// letters reads a name or a variable.
func (l *lexer) letters(kind int) (api.Token, error) {
	for !l.isOver() && isLetter(l.text[l.at]) {
		l.at++
	}
	return l.named(kind, l.read())
}

// signs reads a name of signs.
func (l *lexer) signs() (api.Token, error) {
	for !l.isOver() && Sign(l.text[l.at]) && !l.begins("/*") {
		l.at++
	}
	return l.named(api.TAtom, l.read())
}

// named is a token with a name, if that isn't too long.
func (l *lexer) named(kind int, name string) (api.Token, error) {
	if len(name) > api.MaxName {
		return api.Token{}, fault.New(api.ErrLong, l.from)
	}
	return api.Token{Kind: kind, Text: name}, nil
}

// digits reads a number.
func (l *lexer) digits() (api.Token, error) {
	for !l.isOver() && isDigit(l.text[l.at]) {
		l.at++
	}
	n, err := strconv.ParseInt(l.text[l.from:l.at], 10, 64)
	if errors.Is(err, strconv.ErrRange) {
		return api.Token{}, fault.New(api.ErrInt, l.from)
	}
	return api.Token{Kind: api.TInt, Text: l.read(), Int: n}, nil
}
