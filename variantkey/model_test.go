package variantkey_test

import (
	"regexp"
	"slices"
	"strings"

	"variantproxy/api"
)

// The model reads members and values with expressions, in which the bytes of a text
// stand as the characters with their numbers. It calls no other package.

const (
	quotedForm = `"(?:[\t !#-\[\]-~\x{80}-\x{ff}]|\\[\t -~\x{80}-\x{ff}])*"`
	valueForm  = `(?:[^ \t(),"]+|` + quotedForm + `)`
)

var (
	pieceText   = regexp.MustCompile(`(?s)\A(?:[^",]|"(?:[^"\\]|\\.)*(?:"|\\?\z))*`)
	memberText  = regexp.MustCompile(`\A\( *((?:` + valueForm + `(?: +` + valueForm + `)*)?) *\)\z`)
	valueText   = regexp.MustCompile(valueForm)
	escapedText = regexp.MustCompile(`(?s)\\(.)`)
	plainText   = regexp.MustCompile(`\A[!#-'*+\--~]+\z`)
)

// characters returns the characters with the numbers of the bytes of s, and bytesOf
// turns them back.
func characters(s string) string {
	var text []rune
	for i := range len(s) {
		text = append(text, rune(s[i]))
	}
	return string(text)
}

func bytesOf(text string) string {
	var s []byte
	for _, r := range text {
		s = append(s, byte(r))
	}
	return string(s)
}

// lowered lowers the letters of ASCII and keeps all other bytes.
func lowered(s string) string {
	text := []byte(s)
	for i, b := range text {
		if 'A' <= b && b <= 'Z' {
			text[i] = b + 'a' - 'A'
		}
	}
	return string(text)
}

// expectedMembers follows promise 7.1.
func expectedMembers(value string) []string {
	var members []string
	for rest := characters(value); ; {
		piece := pieceText.FindString(rest)
		if trimmed := strings.Trim(piece, " \t"); trimmed != "" {
			members = append(members, bytesOf(trimmed))
		}
		if len(piece) == len(rest) {
			return members
		}
		rest = rest[len(piece)+1:]
	}
}

// expectedSameValue follows promise 15.1.
func expectedSameValue(axis, a, b string) bool {
	switch lowered(axis) {
	case "accept", "accept-language", "accept-charset":
		return lowered(a) == lowered(b)
	case "accept-encoding":
		return withoutAlias(lowered(a)) == withoutAlias(lowered(b))
	}
	return a == b
}

func withoutAlias(coding string) string {
	if coding == "x-gzip" || coding == "x-compress" {
		return coding[2:]
	}
	return coding
}

// expectedParse follows promise 16.1. It supposes that the axes are valid.
func expectedParse(l []api.Field, axes []api.Axis) ([][]string, api.Errno) {
	var members []string
	for _, f := range l {
		if lowered(f.Name) == "variant-key" {
			members = append(members, expectedMembers(f.Value)...)
		}
	}
	members = members[:min(len(members), 64)]
	if len(members) == 0 {
		return nil, api.ErrState
	}
	for _, member := range members {
		if !memberText.MatchString(characters(member)) {
			return nil, api.ErrSyntax
		}
	}
	var keys [][]string
	for _, member := range members {
		key := expectedKey(axes, expectedValues(member))
		if key == nil {
			return nil, api.ErrLimit
		}
		if !slices.ContainsFunc(keys, func(earlier []string) bool { return slices.Equal(key, earlier) }) {
			keys = append(keys, key)
		}
	}
	return keys, api.OK
}

// expectedValues returns the values of a member that is well-formed.
func expectedValues(member string) []string {
	var values []string
	inner := memberText.FindStringSubmatch(characters(member))[1]
	for _, form := range valueText.FindAllString(inner, -1) {
		if form[0] == '"' {
			form = escapedText.ReplaceAllString(form[1:len(form)-1], "$1")
		}
		values = append(values, bytesOf(form))
	}
	return values
}

// expectedKey returns nil if the values stand for no key.
func expectedKey(axes []api.Axis, values []string) []string {
	var key []string
	for i, value := range values {
		for _, available := range axes[min(i, len(axes)-1)].Values {
			if expectedSameValue(axes[min(i, len(axes)-1)].Name, available, value) {
				key = append(key, available)
			}
		}
	}
	if len(values) != len(axes) || len(key) != len(axes) {
		return nil
	}
	return key
}

// expectedFormat follows the first half of promise 16.2.
func expectedFormat(keys [][]string) string {
	text := ""
	for i, key := range keys {
		if i > 0 {
			text += ", "
		}
		text += "("
		for j, value := range key {
			if j > 0 {
				text += " "
			}
			if !plainText.MatchString(characters(value)) {
				value = `"` + strings.NewReplacer(`\`, `\\`, `"`, `\"`).Replace(value) + `"`
			}
			text += value
		}
		text += ")"
	}
	return text
}

// expectedSame follows the second half of promise 16.2.
func expectedSame(axes []api.Axis, a, b []string) bool {
	same := 0
	for i, axis := range axes {
		if i < len(a) && i < len(b) && expectedSameValue(axis.Name, a[i], b[i]) {
			same++
		}
	}
	return same == len(axes) && same == len(a) && same == len(b)
}
