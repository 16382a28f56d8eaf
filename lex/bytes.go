package lex

import "strings"

// Sign tells whether a byte is a sign.
func Sign(c byte) bool { return strings.IndexByte(`+-*/\^<>=~:.?@#&$`, c) >= 0 }

func isSmall(c byte) bool { return c >= 'a' && c <= 'z' }

func isCapital(c byte) bool { return c >= 'A' && c <= 'Z' || c == '_' }

func isDigit(c byte) bool { return c >= '0' && c <= '9' }

func isLetter(c byte) bool { return isSmall(c) || isCapital(c) || isDigit(c) }

func isBlank(c byte) bool { return strings.IndexByte("\t\n\r ", c) >= 0 }

func isPunct(c byte) bool { return strings.IndexByte("()[]{},|", c) >= 0 }
