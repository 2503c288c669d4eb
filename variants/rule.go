package variants

import (
	"variantproxy/accept"
	"variantproxy/api"
	"variantproxy/ascii"
	"variantproxy/coding"
	"variantproxy/language"
	"variantproxy/mediatype"
)

// rule judges the values of an axis. Parse and Format share it, so that every axis
// that Parse returns can be written, and every axis that Format writes be read.
type rule interface {
	// form returns what s has in common with exactly those texts that are the same
	// value, and whether s can be a value at all.
	form(s string) (string, bool)
}

// ruleOf returns the rule of the axis with this name.
func ruleOf(axis string) rule {
	switch kind := accept.Kind(axis); kind {
	case api.KindAccept:
		return mediaTypes{}
	case api.KindLanguage:
		return languageTags{}
	case api.KindCharset, api.KindCoding:
		return tokens{kind}
	}
	return texts{}
}

// mediaTypes is the rule of Accept.
type mediaTypes struct{}

func (mediaTypes) form(s string) (string, bool) {
	t, ok := mediatype.Parse(s)
	return ascii.Lower(s), ok && areDistinct(t.Params)
}

// areDistinct reports whether no two parameters have one name, and none is named q:
// in a request that would be a quality.
func areDistinct(params []api.Param) bool {
	names := map[string]bool{"q": true}
	for _, p := range params {
		if !add(names, p.Name) {
			return false
		}
	}
	return true
}

// languageTags is the rule of Accept-Language.
type languageTags struct{}

func (languageTags) form(s string) (string, bool) {
	return ascii.Lower(s), language.Tag(s)
}

// tokens is the rule of Accept-Charset and Accept-Encoding, which differ in the
// aliases that they know.
type tokens struct {
	kind int
}

func (t tokens) form(s string) (string, bool) {
	// In a request "*" stands for every value, so it cannot be one.
	return coding.Canonical(t.kind, s), ascii.Token(s) && s != "*"
}

// texts is the rule of all other fields, whose values are compared as they are.
type texts struct{}

// maxText is the number of bytes that the value of such a field may have.
const maxText = 100

func (texts) form(s string) (string, bool) {
	return s, isFromOneTo(maxText, len(s)) && ascii.Text(s) && ascii.Trim(s) == s
}
