// Package group reads and writes values between parentheses, as the promises 15.3
// and 15.4 in the chapter 15-variants.md of the document say. It is a package of its
// own because the axes of Variants, the keys of Variant-Key (16.1 and 16.2) and the
// classes of requests (18.1) are written in the same way.
//
// What a value stands for is not judged here: it may be any text, also an empty one.
package group

import (
	"strings"

	"variantproxy/ascii"
	"variantproxy/piece"
)

// Parse returns the values of a group, of which there may be none, and false if s is
// no group.
func Parse(s string) ([]string, bool) {
	inner, opened := strings.CutPrefix(s, "(")
	inner, closed := strings.CutSuffix(inner, ")")
	if !opened || !closed {
		return nil, false
	}
	var values []string
	rest, more := inner, true
	for more {
		var text string
		text, rest, more = piece.Cut(rest, ' ')
		// Pieces are empty where spaces stand together or beside a parenthesis.
		if text == "" {
			continue
		}
		value, ok := parseValue(text)
		if !ok {
			return nil, false
		}
		values = append(values, value)
	}
	return values, true
}

// Format returns the text of a group with these values. A value that no quoted
// string can hold is quoted all the same, so Parse does not read it.
func Format(values []string) string {
	var texts []string
	for _, value := range values {
		texts = append(texts, formatValue(value))
	}
	return "(" + strings.Join(texts, " ") + ")"
}

// parseValue returns the value that a text stands for, and false if it stands for
// none.
func parseValue(text string) (string, bool) {
	if consistsOf(text, mayStandPlain) {
		return text, true
	}
	return ascii.Unquote(text)
}

// formatValue returns the text that stands for a value: a quoted string only where
// the value cannot stand for itself.
func formatValue(value string) string {
	if consistsOf(value, isWrittenPlain) {
		return value
	}
	return ascii.Quote(value)
}

// consistsOf reports whether s consists of one or more of the permitted bytes.
func consistsOf(s string, permitted func(byte) bool) bool {
	for i := range len(s) {
		if !permitted(s[i]) {
			return false
		}
	}
	return s != ""
}

// mayStandPlain reports whether b may be read outside quoted strings.
func mayStandPlain(b byte) bool {
	switch b {
	case ' ', '\t', '(', ')', ',', '"':
		return false
	}
	return true
}

// isWrittenPlain reports whether b is written outside quoted strings: fewer bytes
// than may be read there, since other readers need not be as lenient.
func isWrittenPlain(b byte) bool {
	return 33 <= b && b <= 126 && mayStandPlain(b)
}
