package variants_test

import (
	"regexp"
	"strings"

	"variantproxy/api"
)

// The model reads members and values with expressions, in which the bytes of a text
// stand as the characters with their numbers. It calls no other package.

const (
	tokenForm  = "[!#$%&'*+.^_`|~0-9A-Za-z-]+"
	quotedForm = `"(?:[\t !#-\[\]-~\x{80}-\x{ff}]|\\[\t -~\x{80}-\x{ff}])*"`
	valueForm  = `(?:[^ \t(),"]+|` + quotedForm + `)`
	paramForm  = `;[ \t]*(?:` + tokenForm + `=(?:` + tokenForm + `|` + quotedForm + `)[ \t]*)?`
)

var (
	pieceText    = regexp.MustCompile(`(?s)\A(?:[^",]|"(?:[^"\\]|\\.)*(?:"|\\?\z))*`)
	memberText   = regexp.MustCompile(`\A(` + tokenForm + `)=\( *((?:` + valueForm + `(?: +` + valueForm + `)*)?) *\)\z`)
	valueText    = regexp.MustCompile(valueForm)
	escapedText  = regexp.MustCompile(`(?s)\\(.)`)
	tokenText    = regexp.MustCompile(`\A` + tokenForm + `\z`)
	mediaText    = regexp.MustCompile(`\A[ \t]*(` + tokenForm + `)/(` + tokenForm + `)[ \t]*((?:` + paramForm + `)*)\z`)
	paramText    = regexp.MustCompile(`;[ \t]*(` + tokenForm + `)=(?:` + tokenForm + `|` + quotedForm + `)`)
	languageText = regexp.MustCompile(`\A[A-Za-z]{1,8}(?:-[A-Za-z0-9]{1,8})*\z`)
	otherText    = regexp.MustCompile(`\A[!-~\x{80}-\x{ff}](?:[\t -~\x{80}-\x{ff}]{0,98}[!-~\x{80}-\x{ff}])?\z`)
	plainText    = regexp.MustCompile(`\A[!#-'*+\--~]+\z`)
)

// characters returns the characters with the numbers of the bytes of s, and bytesOf
// turns them back.
func characters(s string) string {
	var text []rune
	for i := range len(s) {
		text = append(text, rune(s[i]))
	}
	return string(text)
}

func bytesOf(text string) string {
	var s []byte
	for _, r := range text {
		s = append(s, byte(r))
	}
	return string(s)
}

// lowered lowers the letters of ASCII and keeps all other bytes.
func lowered(s string) string {
	text := []byte(s)
	for i, b := range text {
		if 'A' <= b && b <= 'Z' {
			text[i] = b + 'a' - 'A'
		}
	}
	return string(text)
}

// expectedMembers follows promise 7.1.
func expectedMembers(value string) []string {
	var members []string
	for rest := characters(value); ; {
		piece := pieceText.FindString(rest)
		if trimmed := strings.Trim(piece, " \t"); trimmed != "" {
			members = append(members, bytesOf(trimmed))
		}
		if len(piece) == len(rest) {
			return members
		}
		rest = rest[len(piece)+1:]
	}
}

// expectedValue follows the first half of promise 15.1.
func expectedValue(axis, s string) bool {
	text := characters(s)
	switch lowered(axis) {
	case "accept":
		return isMediaType(text)
	case "accept-language":
		return languageText.MatchString(text)
	case "accept-charset", "accept-encoding":
		return tokenText.MatchString(text) && text != "*"
	}
	return otherText.MatchString(text)
}

// isMediaType reports whether a text is a media type that can be a value.
func isMediaType(text string) bool {
	parts := mediaText.FindStringSubmatch(text)
	if parts == nil || parts[1] == "*" || parts[2] == "*" {
		return false
	}
	var names []string
	for _, found := range paramText.FindAllStringSubmatch(parts[3], -1) {
		names = append(names, lowered(found[1]))
	}
	for i, name := range names {
		for _, earlier := range names[:i] {
			if name == earlier {
				return false
			}
		}
		if name == "q" {
			return false
		}
	}
	return true
}

// expectedSame follows the second half of promise 15.1.
func expectedSame(axis, a, b string) bool {
	switch lowered(axis) {
	case "accept", "accept-language", "accept-charset":
		return lowered(a) == lowered(b)
	case "accept-encoding":
		return withoutAlias(lowered(a)) == withoutAlias(lowered(b))
	}
	return a == b
}

func withoutAlias(coding string) string {
	if coding == "x-gzip" || coding == "x-compress" {
		return coding[2:]
	}
	return coding
}

// expectedValid follows promise 15.2.
func expectedValid(l []api.Axis) bool {
	for i, axis := range l {
		if !tokenText.MatchString(characters(axis.Name)) || axis.Name != lowered(axis.Name) {
			return false
		}
		for _, earlier := range l[:i] {
			if earlier.Name == axis.Name {
				return false
			}
		}
		if len(axis.Values) < 1 || len(axis.Values) > 16 {
			return false
		}
		for j, value := range axis.Values {
			if !expectedValue(axis.Name, value) {
				return false
			}
			for _, earlier := range axis.Values[:j] {
				if expectedSame(axis.Name, earlier, value) {
					return false
				}
			}
		}
	}
	return len(l) >= 1 && len(l) <= 4
}

// expectedParse follows promise 15.3.
func expectedParse(l []api.Field) ([]api.Axis, api.Errno) {
	var members []string
	exists := false
	for _, f := range l {
		if lowered(f.Name) == "variants" {
			exists = true
			members = append(members, expectedMembers(f.Value)...)
		}
	}
	if !exists {
		return nil, api.ErrState
	}
	var axes []api.Axis
	for _, member := range members[:min(len(members), 64)] {
		parts := memberText.FindStringSubmatch(characters(member))
		if parts == nil {
			return nil, api.ErrSyntax
		}
		axis := api.Axis{Name: lowered(parts[1])}
		for _, form := range valueText.FindAllString(parts[2], -1) {
			if form[0] == '"' {
				form = escapedText.ReplaceAllString(form[1:len(form)-1], "$1")
			}
			axis.Values = append(axis.Values, bytesOf(form))
		}
		axes = append(axes, axis)
	}
	if !expectedValid(axes) {
		return nil, api.ErrLimit
	}
	return axes, api.OK
}

// expectedFormat follows promise 15.4.
func expectedFormat(l []api.Axis) string {
	if !expectedValid(l) {
		return ""
	}
	text := ""
	for i, axis := range l {
		if i > 0 {
			text += ", "
		}
		text += axis.Name + "=("
		for j, value := range axis.Values {
			if j > 0 {
				text += " "
			}
			if !plainText.MatchString(characters(value)) {
				value = `"` + strings.NewReplacer(`\`, `\\`, `"`, `\"`).Replace(value) + `"`
			}
			text += value
		}
		text += ")"
	}
	return text
}
