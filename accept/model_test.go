package accept_test

import (
	"regexp"
	"slices"
	"strconv"
	"strings"

	"variantproxy/api"
)

// The model reads members and ranges with expressions, in which the bytes of a text
// stand as the characters with their numbers. It calls no other package.

const (
	tokenForm  = "[!#$%&'*+.^_`|~0-9A-Za-z-]+"
	quotedForm = `"(?:[\t !#-\[\]-~\x{80}-\x{ff}]|\\[\t -~\x{80}-\x{ff}])*"`
	blanks     = `[ \t]*`
)

var (
	pieceText    = regexp.MustCompile(`(?s)\A(?:[^",]|"(?:[^"\\]|\\.)*(?:"|\\?\z))*`)
	memberText   = regexp.MustCompile(`(?s)\A` + blanks + `([^;"]*?)` + blanks + `((?:;` + blanks + `(?:` + tokenForm + `=(?:` + tokenForm + `|` + quotedForm + `))?` + blanks + `)*)\z`)
	paramText    = regexp.MustCompile(`;` + blanks + `(` + tokenForm + `)=(` + tokenForm + `|` + quotedForm + `)`)
	escapedText  = regexp.MustCompile(`(?s)\\(.)`)
	tokenText    = regexp.MustCompile(`\A` + tokenForm + `\z`)
	mediaText    = regexp.MustCompile(`\A(` + tokenForm + `)/(` + tokenForm + `)\z`)
	languageText = regexp.MustCompile(`\A[A-Za-z]{1,8}(?:-[A-Za-z0-9]{1,8})*\z`)
	qualityText  = regexp.MustCompile(`\A(?:0(?:\.[0-9]{0,3})?|1(?:\.0{0,3})?)\z`)
)

// characters returns the characters with the numbers of the bytes of s, and bytesOf
// turns them back.
func characters(s string) string {
	var text []rune
	for i := range len(s) {
		text = append(text, rune(s[i]))
	}
	return string(text)
}

func bytesOf(text string) string {
	var s []byte
	for _, r := range text {
		s = append(s, byte(r))
	}
	return string(s)
}

// lowered lowers texts whose letters are those of ASCII.
func lowered(s string) string {
	return strings.Map(func(r rune) rune {
		if 'A' <= r && r <= 'Z' {
			return r + 'a' - 'A'
		}
		return r
	}, s)
}

// expectedMembers follows promise 7.1.
func expectedMembers(value string) []string {
	var members []string
	for rest := value; ; {
		piece := pieceText.FindString(rest)
		if trimmed := strings.Trim(piece, " \t"); trimmed != "" && len(members) < 64 {
			members = append(members, trimmed)
		}
		if len(piece) == len(rest) {
			return members
		}
		rest = rest[len(piece)+1:]
	}
}

// expectedParams returns the value and parameters of a member, or of a media range,
// and false if it is malformed or its value holds a quoted string.
func expectedParams(member string) (string, []api.Param, bool) {
	parts := memberText.FindStringSubmatch(member)
	if parts == nil || parts[1] == "" {
		return "", nil, false
	}
	var l []api.Param
	for _, found := range paramText.FindAllStringSubmatch(parts[2], -1) {
		content := found[2]
		if content[0] == '"' {
			content = escapedText.ReplaceAllString(content[1:len(content)-1], "$1")
		}
		l = append(l, api.Param{Name: lowered(found[1]), Value: content})
	}
	return parts[1], l, true
}

// isMediaRange reports whether a value is a media range without parameters.
func isMediaRange(value string) bool {
	parts := mediaText.FindStringSubmatch(value)
	return parts != nil && (parts[1] != "*" || parts[2] == "*")
}

// withParams writes parameters after a value.
func withParams(value string, l []api.Param) string {
	for _, p := range l {
		content := p.Value
		if !tokenText.MatchString(content) {
			content = `"` + strings.NewReplacer(`\`, `\\`, `"`, `\"`).Replace(content) + `"`
		}
		value += ";" + p.Name + "=" + content
	}
	return value
}

// withoutAlias returns the name of a coding that has an alias.
func withoutAlias(kind int, s string) string {
	if kind == api.KindCoding && (s == "x-gzip" || s == "x-compress") {
		return s[2:]
	}
	return s
}

// expectedPref follows promise 13.2 for one member.
func expectedPref(kind int, member string) (api.Pref, bool) {
	value, params, ok := expectedParams(member)
	if !ok {
		return api.Pref{}, false
	}
	quality := 1000
	if first := slices.IndexFunc(params, func(p api.Param) bool { return p.Name == "q" }); first >= 0 {
		if !qualityText.MatchString(params[first].Value) {
			return api.Pref{}, false
		}
		number, _ := strconv.ParseFloat(params[first].Value, 64)
		quality = int(number*1000 + 0.5)
		params = params[:first]
	}
	if kind == api.KindAccept {
		return api.Pref{Range: bytesOf(withParams(lowered(value), params)), Q: quality}, isMediaRange(value)
	}
	isRange := tokenText.MatchString(value)
	if kind == api.KindLanguage {
		isRange = value == "*" || languageText.MatchString(value)
	}
	return api.Pref{Range: withoutAlias(kind, lowered(value)), Q: quality}, isRange && len(params) == 0
}

// expectedPrefs follows promise 13.2 for a single field of one of the four kinds.
func expectedPrefs(kind int, value string) []api.Pref {
	var l []api.Pref
	for _, member := range expectedMembers(characters(value)) {
		if p, ok := expectedPref(kind, member); ok {
			l = append(l, p)
		}
	}
	return l
}

// expectedMatch follows promise 13.3.
func expectedMatch(kind int, r, value string) int {
	r, value = characters(r), characters(value)
	switch kind {
	case api.KindAccept:
		return expectedMediaMatch(r, value)
	case api.KindLanguage:
		return expectedLanguageMatch(lowered(r), lowered(value))
	}
	if !tokenText.MatchString(r) || !tokenText.MatchString(value) || value == "*" {
		return -1
	}
	return expectedTokenMatch(withoutAlias(kind, lowered(r)), withoutAlias(kind, lowered(value)))
}

func expectedMediaMatch(r, value string) int {
	r, wanted, rangeOK := expectedParams(r)
	value, given, typeOK := expectedParams(value)
	if !rangeOK || !typeOK || !isMediaRange(r) || !isMediaRange(value) || strings.HasSuffix(value, "/*") {
		return -1
	}
	r, value = lowered(r), lowered(value)
	switch {
	case r == "*/*":
		return 0
	case strings.HasSuffix(r, "/*") && strings.HasPrefix(value, r[:len(r)-1]):
		return 1
	case r != value:
		return -1
	}
	for _, w := range wanted {
		if !slices.ContainsFunc(given, func(g api.Param) bool { return g.Name == w.Name && lowered(g.Value) == lowered(w.Value) }) {
			return -1
		}
	}
	return 2 + len(wanted)
}

func expectedLanguageMatch(r, tag string) int {
	switch {
	case !languageText.MatchString(tag):
		return -1
	case r == "*":
		return 0
	case languageText.MatchString(r) && strings.HasPrefix(tag+"-", r+"-"):
		return len(strings.Split(r, "-"))
	}
	return -1
}

func expectedTokenMatch(r, value string) int {
	switch r {
	case "*":
		return 0
	case value:
		return 1
	}
	return -1
}
