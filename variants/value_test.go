package variants_test

import (
	"slices"
	"strings"
	"testing"

	"variantproxy/ascii"
	"variantproxy/variants"
)

// The names of fields with an axis of their own kind, in several cases, and of others.
var (
	acceptNames   = []string{"accept", "Accept", "ACCEPT"}
	languageNames = []string{"accept-language", "Accept-Language", "ACCEPT-LANGUAGE"}
	charsetNames  = []string{"accept-charset", "Accept-Charset", "ACCEPT-CHARSET"}
	codingNames   = []string{"accept-encoding", "Accept-Encoding", "ACCEPT-ENCODING"}
	otherNames    = []string{
		"dpr", "x", "Cookie", "accept-", "accept-languages", "accept-language-", "xaccept", "accept-ranges", "accept-coding", "accept_language", "content-language",
		"", " ", "accept ", " accept", "a b", "\x00", "\xe4", "\u212a", "acc\u0115pt", "accept-char\u017fet", "*",
	}
)

func single(b int) string {
	return string([]byte{byte(b)})
}

// checkValues expects that each of the texts can be a value of each of the axes.
func checkValues(t *testing.T, axes []string, texts ...string) {
	t.Helper()
	judgeValues(t, axes, texts, true)
}

// checkNoValues expects that none of the texts can be a value of one of the axes.
func checkNoValues(t *testing.T, axes []string, texts ...string) {
	t.Helper()
	judgeValues(t, axes, texts, false)
}

func judgeValues(t *testing.T, axes, texts []string, want bool) {
	t.Helper()
	for _, axis := range axes {
		for _, s := range texts {
			if variants.Value(axis, s) != want {
				t.Errorf("Value(%q, %.80q) is not %v", axis, s, want)
			}
			if expectedValue(axis, s) != want {
				t.Errorf("the model is wrong in Value(%q, %.80q)", axis, s)
			}
		}
	}
}

// Promise 15.1, Value

func TestValueOfAccept(t *testing.T) {
	checkValues(t, acceptNames, "text/html", "TEXT/HTML", "text/html;level=1", "text/html; Level=1 ; charset=\"utf-8\"", "application/xhtml+xml", "a/b;c=d;e=f;g=h", "a/b;;c=d;", " a/b\t", "a/b ;c=d ", "**/*a", "1/2")
	checkValues(t, acceptNames, `a/b;c="q=1;q=1"`, `a/b;c="d,(e) \"\\"`, "a/b;qq=1", "a/b;c=q", "a/b;*=*", "a/b;c=\"\t\xff\"", `a/b;c=""`)
	checkNoValues(t, acceptNames, "", " ", "text", "text/", "/html", "/", "*", "*/*", "text/*", "*/html", "text/html/x", "te xt/html", "text/html, text/plain", "text/html,", "(text/html)", `"text/html"`, "en", "gzip", "text/html=1", "t\xe9/html", "text/html\n", "\x00/a")
	checkNoValues(t, acceptNames, "a/b;c", "a/b;c=", "a/b;=d", "a/b;c =d", "a/b;c= d", "a/b;c=d e", "a/b;c=\"d", "a/b;c=d/e", "a/b;c=\"\n\"", ";c=d", "text/*;c=d", "*/*;c=d")
	checkValues(t, acceptNames, strings.Repeat("a", 1000)+"/"+strings.Repeat("b", 1000)) // without a limit
}

func TestValueOfAcceptWithTheParameterQ(t *testing.T) {
	checkNoValues(t, acceptNames, "text/html;q=1", "text/html;Q=1", "text/html;q=x", `text/html;q=""`, `text/html; q="0.5" `, "text/html;level=1;q=0.5", "text/html;q=0.5;level=1", "a/b;c=d;e=f;g=h;Q=1", "a/b;q=1;q=1")
	checkValues(t, acceptNames, "text/html;p=1", "text/html;q-=1", "text/html;r=q", "q/q", "a/b;c=\";q=1\"")
}

func TestValueOfAcceptWithParametersOfOneName(t *testing.T) {
	checkNoValues(t, acceptNames, "a/b;c=d;c=d", "a/b;c=d;c=e", "a/b;c=d;C=e", "a/b;C=d;c=d", "a/b;c=d;e=f;c=g", "a/b;e=f;c=d;c=d", "a/b;c=\"\";c=d", "a/b;c=1;d=2;e=3;f=4;d=5")
	checkValues(t, acceptNames, "a/b;c=d;e=d", "a/b;c=c", "a/b;a=b;b=a", "a/b;c=d;cc=d;c-=d", "a/b;c=\"x;c=y\"", "a/b;k=1;\x4b\x4b=2")
}

func TestValueOfAcceptLanguage(t *testing.T) {
	checkValues(t, languageNames, "en", "EN", "de-CH-1996", "zh-Hant-x-abc", "a", "abcdefgh", "abcdefgh-12345678", "x-gzip", "identity", "en-1-2-3-4-5-6-7-8-9")
	checkNoValues(t, languageNames, "", "*", "en-*", "*-en", "e1", "1", "en-", "-en", "en--gb", "abcdefghi", "en-123456789", "en_gb", " en", "en ", "\ten", "en;q=1", "en,fr", `"en"`, "text/html", "\xe9", "en-\u00e9", "e\u017f", "utf-8+")
}

func TestValueOfAcceptCharsetAndAcceptEncoding(t *testing.T) {
	for _, axes := range [][]string{charsetNames, codingNames} {
		checkValues(t, axes, "gzip", "X-GZIP", "identity", "utf-8", "ISO-8859-1", "1", "**", "*a", "a*", "!#$%&'*+-.^_`|~", strings.Repeat("a", 1000))
		checkNoValues(t, axes, "", "*", " ", " gzip", "gzip ", "gzip\t", "g zip", "gzip;q=1", "gzip,br", `"gzip"`, "(gzip)", "gzip=9", "text/html", "\xe9", "\x7f", "\x00", "gzip\n", `\*`, " *")
	}
}

func TestValueOfOtherFields(t *testing.T) {
	checkValues(t, otherNames, "1", "a b", "a\tb", "a,b", `"a"`, "(a)", "a=b; c=d", "*", "\\", "\xe4", "\u00a0", "\x80\xff", "~", "!", "en", "text/html;q=1;q=1", "\u2028")
	checkNoValues(t, otherNames, "", " ", "\t", " a", "a ", "\ta", "a\t", " a ", "a\n", "\ra", "a\x00b", "\x7f", "a\x1fb", "a\vb")
}

func TestValueOfOtherFieldsByLength(t *testing.T) {
	for _, b := range []string{"a", "\xff", `"`} {
		checkValues(t, otherNames, b, strings.Repeat(b, 99), strings.Repeat(b, 100), b+strings.Repeat(" ", 98)+b)
		checkNoValues(t, otherNames, strings.Repeat(b, 101), strings.Repeat(b, 102), strings.Repeat(b, 100000), b+strings.Repeat(" ", 99)+b, strings.Repeat(b, 100)+" ", " "+strings.Repeat(b, 99), strings.Repeat(b, 356))
	}
	// Bytes are counted, not characters.
	checkValues(t, otherNames, strings.Repeat("\u00e4", 50), strings.Repeat("\u20ac", 33))
	checkNoValues(t, otherNames, strings.Repeat("\u00e4", 51), strings.Repeat("\u20ac", 34))
}

func TestValueOfEveryByteAtEachPlace(t *testing.T) {
	texts := map[string][]string{
		"Accept":          {"a/b;c=\"d\\e\"", "a/b;c=d;e=f"},
		"Accept-Language": {"de-CH"},
		"Accept-Charset":  {"utf-8", "*"},
		"Accept-Encoding": {"x-gzip", "*"},
		"DPR":             {"a b", "\"a\""},
	}
	for axis, ofAxis := range texts {
		for _, text := range ofAxis {
			for i := range len(text) + 1 {
				for b := range 256 {
					changed := []string{text[:i] + single(b) + text[i:]}
					if i < len(text) {
						changed = append(changed, text[:i]+single(b)+text[i+1:])
					}
					for _, s := range changed {
						judgeValues(t, []string{axis}, []string{s}, expectedValue(axis, s))
					}
				}
			}
		}
	}
}

// Names of axes are those of fields, so their case does not count. A name that
// differs in one byte is that of another field.
func TestValueOfNamesWithOneByteChanged(t *testing.T) {
	// The one text can be a value of one of the four kinds only, the other only of
	// other fields.
	for name, text := range map[string]string{"accept": "*", "accept-language": "*", "accept-charset": "a b", "accept-encoding": "a b"} {
		checkNoValues(t, []string{name}, text)
		for i := range len(name) {
			for b := range 256 {
				changed := name[:i] + single(b) + name[i+1:]
				judgeValues(t, []string{changed}, []string{text}, ascii.Lower(changed) != name)
			}
			checkValues(t, []string{name[:i] + name[i+1:], name[:i] + "-" + name[i:]}, "a\xff")
		}
	}
}

func TestValueOfManyParameters(t *testing.T) {
	const count = 100000
	var text strings.Builder
	text.WriteString("a/b")
	for i := range count {
		text.WriteString(";p")
		text.WriteString(ascii.Decimal(i))
		text.WriteString("=v")
	}
	if !variants.Value("Accept", text.String()) {
		t.Error("a media type with many parameters is no value")
	}
	for _, more := range []string{";p0=v", ";P99999=v", ";q=v"} {
		if variants.Value("Accept", text.String()+more) {
			t.Errorf("with %q it is a value", more)
		}
	}
}

// Promise 15.1, Same

// checkSame expects that the texts of a group are the same value, and those of
// different groups are not.
func checkSame(t *testing.T, axes []string, groups ...[]string) {
	t.Helper()
	for _, axis := range axes {
		for i, group := range groups {
			for _, a := range group {
				for j, other := range groups {
					for _, b := range other {
						if variants.Same(axis, a, b) != (i == j) {
							t.Errorf("Same(%q, %.80q, %.80q) is not %v", axis, a, b, i == j)
						}
						if expectedSame(axis, a, b) != (i == j) {
							t.Errorf("the model is wrong in Same(%q, %.80q, %.80q)", axis, a, b)
						}
					}
				}
			}
		}
	}
}

func TestSameOfAcceptAndAcceptLanguage(t *testing.T) {
	for _, axes := range [][]string{acceptNames, languageNames} {
		checkSame(t, axes,
			[]string{"en", "EN", "eN"}, []string{"en-GB", "EN-gb"}, []string{"fr"}, []string{"de-CH"},
			[]string{"text/html", "TEXT/Html"}, []string{"text/html;level=A", "text/html;LEVEL=a"}, []string{"text/html; level=a"}, []string{`text/html;level="a"`}, []string{"text/html "},
			[]string{"x-gzip", "X-GZIP"}, []string{"gzip", "GZIP"}, []string{"x-compress"}, []string{"compress"},
			[]string{""}, []string{" "}, []string{"k", "K"}, []string{"\u212a"}, []string{"s", "S"}, []string{"\u017f"}, []string{"\xe4"}, []string{"\xc4"}, []string{"@"}, []string{"`"}, []string{"["}, []string{"{"})
	}
}

func TestSameOfAcceptCharset(t *testing.T) {
	checkSame(t, charsetNames,
		[]string{"utf-8", "UTF-8", "Utf-8"}, []string{"utf8"}, []string{"x-gzip", "X-GZIP"}, []string{"gzip", "GZIP"}, []string{"x-compress", "X-Compress"}, []string{"compress"},
		[]string{""}, []string{"*"}, []string{"k", "K"}, []string{"\u212a"}, []string{"\xe4"}, []string{"\xc4"}, []string{"utf-8 "})
}

func TestSameOfAcceptEncoding(t *testing.T) {
	checkSame(t, codingNames,
		[]string{"gzip", "GZIP", "x-gzip", "X-Gzip", "x-GZIP"}, []string{"compress", "Compress", "X-COMPRESS", "x-compress"},
		[]string{"identity", "IDENTITY"}, []string{"x-identity"}, []string{"br", "BR"}, []string{"x-br"}, []string{"x-x-gzip"}, []string{"x-"}, []string{"deflate"}, []string{"x-deflate"},
		[]string{""}, []string{"*"}, []string{" gzip"}, []string{"gzip "}, []string{"g\u0131zip"}, []string{"\xe4"}, []string{"\xc4"})
}

func TestSameOfOtherFields(t *testing.T) {
	checkSame(t, otherNames,
		[]string{"a"}, []string{"A"}, []string{"x-gzip"}, []string{"gzip"}, []string{"GZIP"}, []string{"1"}, []string{"1.0"}, []string{""}, []string{" "}, []string{"a "}, []string{" a"},
		[]string{"k"}, []string{"K"}, []string{"\u212a"}, []string{"\xe4"}, []string{"\xc4"}, []string{"\u00e4"}, []string{"text/html"}, []string{"Text/html"}, []string{"a\x00"}, []string{"a\x00b"})
}

func TestSameOfEveryByte(t *testing.T) {
	for _, axis := range slices.Concat(acceptNames[:1], languageNames[1:2], charsetNames[2:], codingNames[:1], otherNames[:2]) {
		for a := range 256 {
			for b := range 256 {
				for _, rest := range []string{"", "-gzip"} {
					first, second := single(a)+rest, single(b)+rest
					if got := variants.Same(axis, first, second); got != expectedSame(axis, first, second) {
						t.Errorf("Same(%q, %q, %q) = %v", axis, first, second, got)
					}
				}
			}
		}
	}
}

func TestSameOfLongTexts(t *testing.T) {
	long, other := strings.Repeat("a", 100000), strings.Repeat("A", 100000)
	for _, axes := range [][]string{acceptNames, languageNames, charsetNames, codingNames} {
		checkSame(t, axes, []string{long, other}, []string{long + "a", other + "A"}, []string{long + "b", long + "B"})
	}
	checkSame(t, otherNames[:2], []string{long}, []string{other}, []string{long + "a"}, []string{long + "b"})
}
