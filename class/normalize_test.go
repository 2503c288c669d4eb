package class_test

import (
	"math"
	"slices"
	"strings"
	"testing"

	"variantproxy/api"
	"variantproxy/class"
)

// checkNormalize expects the fields that the lines hold.
func checkNormalize(t *testing.T, kind int, l []api.Field, values []string, want ...string) {
	t.Helper()
	fieldsBefore, valuesBefore := slices.Clone(l), slices.Clone(values)
	if got := class.Normalize(kind, l, values); !slices.Equal(got, request(want...)) {
		t.Errorf("Normalize(%d, %s, %s) = %s, not %s", kind, shortened(l), shortened(values), shortened(got), shortened(want))
	}
	if !slices.Equal(l, fieldsBefore) || !slices.Equal(values, valuesBefore) {
		t.Errorf("Normalize has changed its arguments to %s, %s", shortened(l), shortened(values))
	}
}

func texts(values ...string) []string {
	return values
}

// Promise 18.2, the four kinds

func TestNormalizeOfLanguages(t *testing.T) {
	values := texts("en", "fr", "de-CH", "de")
	checkNormalize(t, api.KindLanguage, request("Accept-Language: fr;q=0.5, en"), values, "Accept-Language: en, fr;q=0.5, de-CH;q=0, de;q=0")
	checkNormalize(t, api.KindLanguage, request("Accept-Language: de;q=0.25, *;q=0.1, fr;q=0.001"), values, "Accept-Language: en;q=0.1, fr;q=0.001, de-CH;q=0.25, de;q=0.25")
	checkNormalize(t, api.KindLanguage, request("Accept-Language: DE-ch;q=0, de, *;q=0.3"), values, "Accept-Language: en;q=0.3, fr;q=0.3, de-CH;q=0, de")
	checkNormalize(t, api.KindLanguage, request("Accept-Language: en-GB, e_n, en;q=2, fr;level=1, de-CH-1996"), values, "Accept-Language: en;q=0, fr;q=0, de-CH;q=0, de;q=0")
}

func TestNormalizeOfMediaTypes(t *testing.T) {
	values := texts("text/html", "text/plain", "image/png", "text/html;level=1")
	checkNormalize(t, api.KindAccept, request("Accept: text/*;q=0.3, text/html;q=0.7"), values, "Accept: text/html;q=0.7, text/plain;q=0.3, image/png;q=0, text/html;level=1;q=0.7")
	checkNormalize(t, api.KindAccept, request("Accept: */*;q=0.1, text/html;level=1, TEXT/html;q=0"), values, "Accept: text/html;q=0, text/plain;q=0.1, image/png;q=0.1, text/html;level=1")
	checkNormalize(t, api.KindAccept, request("Accept: text/html;level=2, html, */html"), values, "Accept: text/html;q=0, text/plain;q=0, image/png;q=0, text/html;level=1;q=0")
}

// Neither the aliases of codings nor identity are special among charsets.
func TestNormalizeOfCharsets(t *testing.T) {
	values := texts("utf-8", "iso-8859-1", "gzip", "identity")
	checkNormalize(t, api.KindCharset, request("Accept-Charset: ISO-8859-1;q=0.9, Utf-8"), values, "Accept-Charset: utf-8, iso-8859-1;q=0.9, gzip;q=0, identity;q=0")
	checkNormalize(t, api.KindCharset, request("Accept-Charset: x-gzip, *;q=0.02, utf-8;q=0"), values, "Accept-Charset: utf-8;q=0, iso-8859-1;q=0.02, gzip;q=0.02, identity;q=0.02")
}

// The coding identity has the least quality if no preference matches it.
func TestNormalizeOfCodings(t *testing.T) {
	values := texts("gzip", "br", "identity")
	checkNormalize(t, api.KindCoding, request("Accept-Encoding: x-gzip;q=0.5"), values, "Accept-Encoding: gzip;q=0.5, br;q=0, identity;q=0.001")
	checkNormalize(t, api.KindCoding, request("Accept-Encoding: *, gzip;q=0"), values, "Accept-Encoding: gzip;q=0, br, identity")
	checkNormalize(t, api.KindCoding, request("Accept-Encoding: br;q=0.999, identity;q=0"), values, "Accept-Encoding: gzip;q=0, br;q=0.999, identity;q=0")
	checkNormalize(t, api.KindCoding, request("Accept-Encoding: GZIP, BR;q=0.010"), texts("X-Gzip", "Identity", "bR"), "Accept-Encoding: X-Gzip, Identity;q=0.001, bR;q=0.01")
}

// Kinds read their own field and judge values in their own way.
func TestNormalizeByKind(t *testing.T) {
	l := request("Accept: en;q=0.1, a/b;q=0.2", "Accept-Language: en;q=0.3", "Accept-Charset: en;q=0.4", "Accept-Encoding: en;q=0.5")
	values := texts("en", "a/b")
	checkNormalize(t, api.KindAccept, l, values, "Accept-Language: en;q=0.3", "Accept-Charset: en;q=0.4", "Accept-Encoding: en;q=0.5", "Accept: a/b;q=0.2")
	checkNormalize(t, api.KindLanguage, l, values, "Accept: en;q=0.1, a/b;q=0.2", "Accept-Charset: en;q=0.4", "Accept-Encoding: en;q=0.5", "Accept-Language: en;q=0.3")
	checkNormalize(t, api.KindCharset, l, values, "Accept: en;q=0.1, a/b;q=0.2", "Accept-Language: en;q=0.3", "Accept-Encoding: en;q=0.5", "Accept-Charset: en;q=0.4")
	checkNormalize(t, api.KindCoding, l, values, "Accept: en;q=0.1, a/b;q=0.2", "Accept-Language: en;q=0.3", "Accept-Charset: en;q=0.4", "Accept-Encoding: en;q=0.5")
}

// Promise 18.2, the fields

// All fields with the name are left out, and one is appended with the name as layer 13
// writes it.
func TestNormalizeReplacesTheFields(t *testing.T) {
	l := request("Host: a", "ACCEPT-LANGUAGE: fr;q=0.5", "Accept: */*", "accept-language: en", "Host: a", "Accept-Languages: x", "Accept-Language: *;q=0.1", "X: y")
	checkNormalize(t, api.KindLanguage, l, texts("de", "en", "fr"), "Host: a", "Accept: */*", "Host: a", "Accept-Languages: x", "X: y", "Accept-Language: de;q=0.1, en, fr;q=0.5")
	for _, name := range texts("Accept", "Accept-Language", "Accept-Charset", "Accept-Encoding") {
		for kind, wanted := range map[int]string{api.KindAccept: "Accept", api.KindLanguage: "Accept-Language", api.KindCharset: "Accept-Charset", api.KindCoding: "Accept-Encoding"} {
			for _, written := range texts(name, strings.ToLower(name), strings.ToUpper(name)) {
				line := written + ": b"
				if name != wanted {
					checkNormalize(t, kind, request(line, "c: d"), nil, line, "c: d")
					continue
				}
				checkNormalize(t, kind, request(line, "c: d"), nil, "c: d", wanted+": ")
			}
		}
	}
}

// Fields that are no fields of a message are kept, too.
func TestNormalizeKeepsOtherFields(t *testing.T) {
	l := []api.Field{{Name: "", Value: "a"}, {Name: "Accept-Encoding", Value: "br"}, {}, {Name: "\xff \x00", Value: " \r\n"}, {Name: "Accept-Encoding ", Value: "x"}}
	want := []api.Field{l[0], l[2], l[3], l[4], {Name: "Accept-Encoding", Value: "br"}}
	if got := class.Normalize(api.KindCoding, l, texts("br")); !slices.Equal(got, want) {
		t.Errorf("the fields have become %s", shortened(got))
	}
}

// Without a field of the kind, none is appended.
func TestNormalizeWithoutField(t *testing.T) {
	for _, kind := range []int{api.KindAccept, api.KindLanguage, api.KindCharset, api.KindCoding} {
		checkNormalize(t, kind, nil, nil)
		checkNormalize(t, kind, []api.Field{}, texts("a/b", "en"))
		checkNormalize(t, kind, request("Host: a", "Accepts: en", "Accept-: x", "Vary: Accept"), texts("a/b", "en"), "Host: a", "Accepts: en", "Accept-: x", "Vary: Accept")
	}
}

// A field without any preference is a field.
func TestNormalizeOfFieldsWithoutPreferences(t *testing.T) {
	for _, line := range texts("Accept-Encoding: ", "Accept-Encoding: , ,", "Accept-Encoding: gzip;q=x, a b", "Accept-Encoding: ;q=1") {
		checkNormalize(t, api.KindCoding, request(line), texts("gzip", "identity"), "Accept-Encoding: gzip;q=0, identity;q=0.001")
		checkNormalize(t, api.KindCoding, request(line), nil, "Accept-Encoding: ")
	}
	checkNormalize(t, api.KindLanguage, request("Accept-Language: "), texts("en"), "Accept-Language: en;q=0")
}

func TestNormalizeOfOtherKinds(t *testing.T) {
	l := request("Accept: a/b;q=0.5", "Accept-Language: en, fr", ": x", "Accept-Encoding: br", "Other: a", "accept-charset: b")
	lines := texts("Accept: a/b;q=0.5", "Accept-Language: en, fr", ": x", "Accept-Encoding: br", "Other: a", "accept-charset: b")
	for _, kind := range []int{api.KindOther, -1, -4, 5, 6, 256, 257, 260, 1 << 32, 1<<32 + 1, math.MinInt, math.MaxInt} {
		checkNormalize(t, kind, l, texts("a/b", "en", "br", "a"), lines...)
		checkNormalize(t, kind, l, nil, lines...)
		checkNormalize(t, kind, nil, texts("a"))
	}
}

// Promise 18.2, the values

// The text of a value stands as it is, and values keep their order.
func TestNormalizeKeepsTheTextOfValues(t *testing.T) {
	checkNormalize(t, api.KindAccept, request("Accept: text/html;level=1;q=0.5, text/*"), texts("TEXT/Plain", " text/html ; Level=1", "text/html;", `a/b;c="d, e"`, "\tText/HTML"),
		`Accept: TEXT/Plain,  text/html ; Level=1;q=0.5, text/html;, a/b;c="d, e";q=0, `+"\tText/HTML")
	checkNormalize(t, api.KindLanguage, request("Accept-Language: de, en;q=0.5"), texts("X-y", "EN-us", "De"), "Accept-Language: X-y;q=0, EN-us;q=0.5, De")
	checkNormalize(t, api.KindCharset, request("Accept-Charset: utf-8, X-GZIP;q=0.5"), texts("x-Gzip", "UTF-8", "GZIP"), "Accept-Charset: x-Gzip;q=0.5, UTF-8, GZIP;q=0")
	checkNormalize(t, api.KindCoding, request("Accept-Encoding: compress, gzip;q=0.5"), texts("x-Gzip", "IDENTITY", "X-COMPRESS"), "Accept-Encoding: x-Gzip;q=0.5, IDENTITY;q=0.001, X-COMPRESS")
}

// Equal values are kept, and values that are the same.
func TestNormalizeOfEqualValues(t *testing.T) {
	checkNormalize(t, api.KindLanguage, request("Accept-Language: en;q=0.5"), texts("en", "fr", "EN", "en", "fr"), "Accept-Language: en;q=0.5, fr;q=0, EN;q=0.5, en;q=0.5, fr;q=0")
	checkNormalize(t, api.KindLanguage, request("Accept-Language: en;q=0.5"), texts("en", "en", "fr", "fr", "fr"), "Accept-Language: en;q=0.5, en;q=0.5, fr;q=0, fr;q=0, fr;q=0")
	checkNormalize(t, api.KindCoding, request("Accept-Encoding: x-gzip"), texts("gzip", "x-gzip", "gzip"), "Accept-Encoding: gzip, x-gzip, gzip")
}

// A value that no preference can name alone is left out.
func TestNormalizeLeavesValuesOut(t *testing.T) {
	checkNormalize(t, api.KindAccept, request("Accept: */*"), texts("", "*/*", "a/b", "text/*", "*/html", "html", "a/", "/b", "a/b/c", "a b/c", "a/b;c", "a/b;c=", "a/b;c = d", `a/b;c="d`, "a/b,c", "c/d;e=f"), "Accept: a/b, c/d;e=f")
	checkNormalize(t, api.KindLanguage, request("Accept-Language: *"), texts("", "*", "en", "en-", "-en", "en--us", "e1", "en_us", "en-abcdefghi", "abcdefghi", " en", "en ", "en;q=1", "en,fr", "*-us", "x-1"), "Accept-Language: en, x-1")
	tokens := texts("", "*", "a", "a b", " a", "a ", "a,b", "a;q=1", `"a"`, "a/b", "a=b", "\xe4", "**", "a*", "!#$%&'*+-.^_`|~")
	checkNormalize(t, api.KindCharset, request("Accept-Charset: *;q=0.3"), tokens, "Accept-Charset: a;q=0.3, **;q=0.3, a*;q=0.3, !#$%&'*+-.^_`|~;q=0.3")
	checkNormalize(t, api.KindCoding, request("Accept-Encoding: *;q=0.3"), tokens, "Accept-Encoding: a;q=0.3, **;q=0.3, a*;q=0.3, !#$%&'*+-.^_`|~;q=0.3")
	checkNormalize(t, api.KindCoding, request("Accept-Encoding: gzip"), texts("*", "", "a b"), "Accept-Encoding: ")
}

// Media types that are no values of an axis are media types all the same.
func TestNormalizeOfMediaTypesWithAnyParameters(t *testing.T) {
	checkNormalize(t, api.KindAccept, request("Accept: a/b;q=0.5"), texts("a/b;q=0.7", "a/b;c=d;c=e", "a/b;Q=x"), "Accept: a/b;q=0.7;q=0.5, a/b;c=d;c=e;q=0.5, a/b;Q=x;q=0.5")
	checkNormalize(t, api.KindAccept, request("Accept: a/*"), texts("a/b;q=0.7"), "Accept: a/b;q=0.7")
}

// Each byte decides for itself whether a text is a value.
func TestNormalizeOfEveryByte(t *testing.T) {
	const others = "!#$%&'*+-.^_`|~"
	for b := range 256 {
		text := string([]byte{byte(b)})
		letter := 'a' <= b|32 && b|32 <= 'z'
		digit := '0' <= b && b <= '9'
		token := letter || digit || strings.Contains(others, text)
		language, coding, media := "Accept-Language: ", "Accept-Encoding: ", "Accept: "
		if letter {
			language += text
		}
		if token && b != '*' {
			coding += text
			media += "a/" + text
		}
		checkNormalize(t, api.KindLanguage, request("Accept-Language: *"), texts(text), language)
		checkNormalize(t, api.KindCoding, request("Accept-Encoding: *"), texts(text), coding)
		checkNormalize(t, api.KindAccept, request("Accept: */*"), texts("a/"+text), media)
	}
}

func TestNormalizeOfQualities(t *testing.T) {
	for stated, written := range map[string]string{"0": ";q=0", "0.000": ";q=0", "0.001": ";q=0.001", "0.01": ";q=0.01", "0.010": ";q=0.01", "0.5": ";q=0.5", "0.50": ";q=0.5", "0.999": ";q=0.999", "1": "", "1.": "", "1.000": ""} {
		checkNormalize(t, api.KindCharset, request("Accept-Charset: a;q="+stated), texts("a", "b"), "Accept-Charset: a"+written+", b;q=0")
	}
	checkNormalize(t, api.KindCharset, request("Accept-Charset: a, b;q=0.1, A;q=0.2, *;q=0.3, *;q=0.4"), texts("a", "b", "c"), "Accept-Charset: a, b;q=0.1, c;q=0.3")
}

// Values are not limited, but preferences are: those behind the first MaxMembers are
// not looked at.
func TestNormalizeByNumbers(t *testing.T) {
	for _, count := range []int{1, 4, 16, 17, 64, 65, 1000} {
		values := numbered("", count)
		checkNormalize(t, api.KindLanguage, request("Accept-Language: v"), values, "Accept-Language: "+strings.Join(values, ", "))
	}
	for count, quality := range map[int]string{0: "", 62: "", 63: "", 64: ";q=0", 1000: ";q=0"} {
		checkNormalize(t, api.KindCharset, request("Accept-Charset: "+strings.Repeat("x,", count)+"a"), texts("a"), "Accept-Charset: a"+quality)
		checkNormalize(t, api.KindCharset, append(slices.Repeat(request("Accept-Charset: x"), count), request("accept-charset: a")...), texts("a"), "Accept-Charset: a"+quality)
	}
	long := strings.Repeat("a", 1000000)
	checkNormalize(t, api.KindCoding, request("Accept-Encoding: "+long+";q=0.5"), texts("b", long), "Accept-Encoding: b;q=0, "+long+";q=0.5")
}

// Rules R4 and R6

func TestNormalizeSharesNoMemory(t *testing.T) {
	for _, kind := range []int{api.KindLanguage, api.KindCharset, api.KindOther} {
		lines := texts("Accept-Language: en", "Host: a", "Accept-Language: fr", "Width: 1", "DPR: 2")
		whole := request(lines...)
		l := whole[:4]
		first, second := class.Normalize(kind, l, texts("en")), class.Normalize(kind, l, texts("en"))
		want := slices.Clone(second)
		for i := range first {
			first[i] = api.Field{Name: "changed"}
		}
		_ = append(first, api.Field{Name: "changed"}, api.Field{Name: "changed"}, api.Field{Name: "changed"})
		if !slices.Equal(second, want) || !slices.Equal(whole, request(lines...)) {
			t.Errorf("a change of a result has changed another one to %s, or the fields to %s", shortened(second), shortened(whole))
		}
		clear(whole)
		if !slices.Equal(second, want) {
			t.Errorf("a change of the fields has changed a result to %s", shortened(second))
		}
	}
}

// A call does not depend on the calls before.
func TestNormalizeOfRepeatedCalls(t *testing.T) {
	for range 100 {
		checkNormalize(t, api.KindLanguage, request("Accept-Language: fr"), texts("en", "fr"), "Accept-Language: en;q=0, fr")
		checkNormalize(t, api.KindCoding, request("Accept-Encoding: fr"), texts("en", "fr"), "Accept-Encoding: en;q=0, fr")
		checkNormalize(t, api.KindLanguage, request("Host: a"), texts("en"), "Host: a")
	}
}
