package selection_test

import (
	"fmt"
	"slices"
	"strconv"
	"strings"
	"testing"

	"variantproxy/api"
	"variantproxy/selection"
)

func axis(name string, values ...string) api.Axis {
	return api.Axis{Name: name, Values: values}
}

func key(values ...string) []string {
	return values
}

// request returns the fields that the lines hold.
func request(lines ...string) []api.Field {
	var l []api.Field
	for _, line := range lines {
		name, value, _ := strings.Cut(line, ": ")
		l = append(l, api.Field{Name: name, Value: value})
	}
	return l
}

// numbered returns count different values of every axis but Accept, and those of
// Accept with a type before them.
func numbered(before string, count int) []string {
	var values []string
	for i := range count {
		values = append(values, before+"v-"+strconv.Itoa(i))
	}
	return values
}

// exampleAxes returns the axes of chapter 15's example.
func exampleAxes() []api.Axis {
	return []api.Axis{axis("accept-language", "en", "fr"), axis("accept-encoding", "gzip", "identity")}
}

// clone returns a copy of the axes that shares no memory with them.
func clone(axes []api.Axis) []api.Axis {
	copied := slices.Clone(axes)
	for i := range copied {
		copied[i].Values = slices.Clone(copied[i].Values)
	}
	return copied
}

func equalAxes(a, b []api.Axis) bool {
	return slices.EqualFunc(a, b, func(one, other api.Axis) bool {
		return one.Name == other.Name && slices.Equal(one.Values, other.Values)
	})
}

func equalKeys(a, b [][]string) bool {
	return slices.EqualFunc(a, b, slices.Equal[[]string])
}

// shortened returns the beginning of the text of a list.
func shortened[T any](l []T) string {
	return fmt.Sprintf("%.300q", fmt.Sprint(l[:min(len(l), 20)]))
}

// checkRanked expects these values, and of Keys and Best that they return them for a
// single axis, too.
func checkRanked(t *testing.T, a api.Axis, l []api.Field, strict bool, want ...string) {
	t.Helper()
	valuesBefore, fieldsBefore := slices.Clone(a.Values), slices.Clone(l)
	if got := selection.Ranked(a, l, strict); !slices.Equal(got, want) {
		t.Errorf("Ranked(%s, %s, %v) = %s, not %s", shortened([]api.Axis{a}), shortened(l), strict, shortened(got), shortened(want))
	}
	if !slices.Equal(a.Values, valuesBefore) || !slices.Equal(l, fieldsBefore) {
		t.Errorf("Ranked has changed its arguments to %s, %s", shortened(a.Values), shortened(l))
	}
	var keys [][]string
	for _, value := range want {
		keys = append(keys, key(value))
	}
	checkKeys(t, []api.Axis{a}, l, strict, keys...)
}

// checkFound expects these values, of which there are some, so that strict does not
// matter.
func checkFound(t *testing.T, a api.Axis, l []api.Field, want ...string) {
	t.Helper()
	checkRanked(t, a, l, false, want...)
	checkRanked(t, a, l, true, want...)
}

// checkNotFound expects that no value is acceptable, so that the first one is chosen
// by default.
func checkNotFound(t *testing.T, a api.Axis, l []api.Field) {
	t.Helper()
	checkRanked(t, a, l, false, a.Values[0])
	checkRanked(t, a, l, true)
}

// Promise 17.1, the four fields of layer 13

func TestRankedOfLanguages(t *testing.T) {
	languages := axis("accept-language", "en", "fr", "de-CH", "de")
	checkFound(t, languages, request("Accept-Language: fr;q=0.5, en"), "en", "fr")
	checkFound(t, languages, request("Accept-Language: fr, en;q=0.5"), "fr", "en")
	checkFound(t, languages, request("Accept-Language: de;q=0.9, *;q=0.1, fr;q=0.2"), "de-CH", "de", "fr", "en")
	checkFound(t, languages, request("Accept-Language: de-ch;q=0.3, de;q=0.4, fr;q=0"), "de", "de-CH")
	checkFound(t, languages, request("Accept-Language: *, de;q=0, fr;q=0.5"), "en", "fr")
	checkNotFound(t, languages, request("Accept-Language: it"))
	checkNotFound(t, languages, request("Accept-Language: de-AT, en-GB, f"))
	checkNotFound(t, languages, request("Accept-Language: *;q=0"))
	checkNotFound(t, languages, request("Accept-Language: en;q=0, fr;q=0.000, de;q=0.0"))
}

func TestRankedOfMediaTypes(t *testing.T) {
	types := axis("accept", "text/html", "text/plain", "image/png", "text/html;level=1")
	checkFound(t, types, request("Accept: text/*;q=0.3, text/html;q=0.7"), "text/html", "text/html;level=1", "text/plain")
	checkFound(t, types, request("Accept: text/*;q=0.3, text/html;q=0.7, text/html;level=1, */*;q=0.5"), "text/html;level=1", "text/html", "image/png", "text/plain")
	checkFound(t, types, request("Accept: IMAGE/*, text/html;level=1;q=0.2"), "image/png", "text/html;level=1")
	checkFound(t, types, request("Accept: */*;q=0.1, text/html;q=0"), "text/plain", "image/png")
	checkNotFound(t, types, request("Accept: text/css, text/html;level=2, html, text/"))
	checkNotFound(t, types, request("Accept: */*;q=0"))
}

func TestRankedOfCharsets(t *testing.T) {
	charsets := axis("accept-charset", "iso-8859-1", "utf-8", "gzip", "identity")
	checkFound(t, charsets, request("Accept-Charset: UTF-8, *;q=0.5"), "utf-8", "iso-8859-1", "gzip", "identity")
	checkFound(t, charsets, request("Accept-Charset: ISO-8859-1;q=0.1, utf-8;q=0.2"), "utf-8", "iso-8859-1")
	// Neither the aliases of codings nor identity are special here.
	checkNotFound(t, charsets, request("Accept-Charset: x-gzip, utf-16"))
	checkFound(t, charsets, request("Accept-Charset: *, utf-8;q=0, identity;q=0"), "iso-8859-1", "gzip")
}

// The coding identity is acceptable unless the field says otherwise.
func TestRankedOfCodings(t *testing.T) {
	codings := axis("accept-encoding", "gzip", "identity", "br")
	checkFound(t, codings, request("Accept-Encoding: br, x-GZIP;q=0.5"), "br", "gzip", "identity")
	checkFound(t, codings, request("Accept-Encoding: br;q=0.001"), "identity", "br")
	checkFound(t, codings, request("Accept-Encoding: zstd"), "identity")
	checkFound(t, codings, request("Accept-Encoding: "), "identity")
	checkFound(t, codings, request("Accept-Encoding: gzip;q=0.5, *;q=0"), "gzip")
	checkFound(t, codings, request("Accept-Encoding: *;q=0, identity;q=0.1"), "identity")
	checkNotFound(t, codings, request("Accept-Encoding: *;q=0"))
	checkNotFound(t, codings, request("Accept-Encoding: identity;q=0, *;q=0"))
	checkNotFound(t, codings, request("Accept-Encoding: identity;q=0, zstd"))
	checkNotFound(t, axis("accept-encoding", "gzip", "br"), request("Accept-Encoding: zstd"))
	checkNotFound(t, axis("accept-encoding", "br", "gzip"), request("Accept-Encoding: identity"))
}

// Values are returned as the axis spells them.
func TestRankedReturnsTheValuesOfTheAxis(t *testing.T) {
	checkFound(t, axis("accept-language", "EN-gb", "Fr"), request("Accept-Language: FR, en;q=0.1"), "Fr", "EN-gb")
	checkFound(t, axis("accept-encoding", "Br", "X-Gzip", "IDENTITY"), request("Accept-Encoding: gzip, bR;q=0.5"), "X-Gzip", "Br", "IDENTITY")
	checkFound(t, axis("accept", "Text/HTML; Level=A"), request("Accept: text/html;level=a"), "Text/HTML; Level=A")
	checkFound(t, axis("accept-charset", "UTF-8"), request("Accept-Charset: utf-8;q=0.1"), "UTF-8")
	checkFound(t, axis("accept-language", "EN-gb", "Fr"), nil, "EN-gb", "Fr")
	checkNotFound(t, axis("accept-language", "EN-gb", "Fr"), request("Accept-Language: de"))
}

func TestRankedKeepsTheOrderOfOneQuality(t *testing.T) {
	languages := axis("accept-language", "c", "a", "d", "b")
	checkFound(t, languages, request("Accept-Language: a, b, c, d"), "c", "a", "d", "b")
	checkFound(t, languages, request("Accept-Language: d;q=0.5, b, a;q=0.5, c;q=0.5"), "b", "c", "a", "d")
	checkFound(t, languages, request("Accept-Language: *"), "c", "a", "d", "b")
}

// fourAxes returns an axis of each of the four fields.
func fourAxes() []api.Axis {
	return []api.Axis{axis("accept", "a/b", "a/c"), axis("accept-language", "b", "c"), axis("accept-charset", "b", "c"), axis("accept-encoding", "b", "c")}
}

// Without the field, every value is acceptable.
func TestRankedWithoutField(t *testing.T) {
	for _, a := range fourAxes() {
		for _, l := range [][]api.Field{nil, {}, request("Host: a"), request(a.Name + "s: *;q=0"), request("X-" + a.Name + ": *;q=0"), request(": *;q=0"), request("b: " + a.Name), request(a.Name + " : *;q=0"), request(a.Name[1:] + ": *;q=0")} {
			checkFound(t, a, l, a.Values...)
		}
		for _, other := range append(fourAxes(), axis("variants"), axis("dpr")) {
			if other.Name != a.Name {
				checkFound(t, a, request(other.Name+": *;q=0, */*;q=0"), a.Values...)
			}
		}
	}
	checkFound(t, axis("accept-language", numbered("", 10)[9:]...), nil, "v-9")
}

// A field without any preference is a field.
func TestRankedOfFieldsWithoutPreferences(t *testing.T) {
	for _, a := range fourAxes() {
		for _, value := range []string{"", " ", ",, ,", "*;q=2", "*/*;q=x", "b c", ";q=1", "a/b;q", `"b"`, "(b)", "b;q=0.5;r", "=", "\x00", "\xff/b"} {
			checkNotFound(t, a, request(a.Name+": "+value))
			checkNotFound(t, a, request(a.Name+": "+value, a.Name+": "+value))
			checkFound(t, a, request(a.Name+": "+value, a.Name+": "+a.Values[1]), a.Values[1])
		}
	}
}

func TestRankedByTheNameInAnyCase(t *testing.T) {
	for _, a := range append(fourAxes(), axis("dpr", "b", "c")) {
		for _, name := range []string{a.Name, strings.ToUpper(a.Name), strings.ToUpper(a.Name[:1]) + a.Name[1:], a.Name[:2] + strings.ToUpper(a.Name[2:])} {
			checkFound(t, a, request("Host: x", name+": "+a.Values[1], "x: y"), a.Values[1])
		}
	}
}

// The members of all fields with the name are looked at, in order.
func TestRankedOfSeveralFields(t *testing.T) {
	languages := axis("accept-language", "en", "fr", "de")
	checkFound(t, languages, request("Accept-Language: fr;q=0.5", "Accept: a/b", "accept-language: ", "ACCEPT-LANGUAGE: en;q=0.7, de"), "de", "en", "fr")
	checkFound(t, languages, request("Accept-Language: fr;q=0.5", "Accept-Language: fr, en;q=0.7"), "en", "fr")
	checkFound(t, languages, request("Accept-Language: it", "Accept-Language: fr;q=0", "Accept-Language: *"), "en", "de")
	checkNotFound(t, languages, request("Accept-Language: it", "Accept-Language: fr;q=0"))
}

// Only the first MaxMembers members are looked at, also if they are left out.
func TestRankedOfManyMembers(t *testing.T) {
	languages := axis("accept-language", "en", "fr")
	for _, filler := range []string{"it,", "*;q=x,", "fr;q=0,"} {
		for _, count := range []int{0, 1, 62, 63} {
			checkFound(t, languages, request("Accept-Language: "+strings.Repeat(filler, count)+"en;q=0.1"), "en")
			checkFound(t, languages, request("Accept-Language: "+strings.Repeat(filler, count), "Accept-Language: ,,en"), "en")
		}
		for _, count := range []int{64, 65, 100} {
			checkNotFound(t, languages, request("Accept-Language: "+strings.Repeat(filler, count)+"en"))
			checkNotFound(t, languages, request("Accept-Language: "+strings.Repeat(filler, count), "Accept-Language: en"))
		}
	}
	checkFound(t, languages, request("Accept-Language: "+strings.Repeat(",", 1000)+"en"), "en")
}

// Promise 17.1, other names

func TestRankedOfOtherNames(t *testing.T) {
	ratios := axis("dpr", "1", "2", "2.0", "a", "A", "*", "1;q=0")
	checkFound(t, ratios, request("DPR: 2"), "2")
	checkFound(t, ratios, request("Host: a", "dpr: 2.0", "Accept: 1"), "2.0")
	checkFound(t, ratios, request("DPR: a"), "a")
	checkFound(t, ratios, request("DPR: A"), "A")
	// Here these are no ranges and no qualities.
	checkFound(t, ratios, request("DPR: *"), "*")
	checkFound(t, ratios, request("DPR: 1;q=0"), "1;q=0")
	for _, value := range []string{"", " ", ",", "3", "22", "2.", "2.00", "2;q=1", "2 .0", "aA", `"2"`, "(2)", "1, 2", "1,2", "=", "\x00", "\xff"} {
		checkNotFound(t, ratios, request("DPR: "+value))
	}
	checkNotFound(t, ratios, nil)
	checkNotFound(t, ratios, []api.Field{})
	checkNotFound(t, ratios, request("Accept: 2", "DPRS: 2", "DP: 2", ": 2", "X-DPR: 2", "2: dpr"))
	checkNotFound(t, axis("dpr", "1", "2"), request("DPR: *"))
	checkNotFound(t, axis("dpr", "identity", "2"), request("DPR: 3"))
	checkNotFound(t, axis("dpr", "\xe4"), request("DPR: \xc4"))
	checkFound(t, axis("dpr", "\xc4", "\xe4"), request("DPR: \xe4"), "\xe4")
	checkFound(t, axis("dpr", "a b"), request("DPR: \ta b "), "a b")
	checkNotFound(t, axis("dpr", "a b"), request("DPR: a  b"))
}

// The members of all fields with the name are joined before they are compared.
func TestRankedOfOtherNamesWithSeveralMembers(t *testing.T) {
	lists := axis("x-list", "a", "a, b", "b, a", "a,b", "a, b, c", "a , b", `"a,b", c`, `"a`, `"a, b`, "a b")
	checkFound(t, lists, request("X-List: a"), "a")
	for _, value := range []string{"a, b", "a,b", " a\t,\tb ", ",a,,b,", "a ,  b"} {
		checkFound(t, lists, request("X-List: "+value), "a, b")
		checkFound(t, lists, request("X-List: "+value, "X-List: "), "a, b")
		checkFound(t, lists, request("x-list: "+value, "a: b", "X-LIST: c"), "a, b, c")
	}
	checkFound(t, lists, request("X-List: b", "x-list: a"), "b, a")
	checkFound(t, lists, request("X-List: a", "x-list: ", "x-list: b,c"), "a, b, c")
	checkFound(t, lists, request(`X-List: "a,b",c`), `"a,b", c`)
	checkFound(t, lists, request(`X-List: "a`), `"a`)
	checkFound(t, lists, request(`X-List: "a`, "X-List: b"), `"a, b`)
	checkFound(t, lists, request(`X-List: "a, b`), `"a, b`)
	checkNotFound(t, lists, request(`X-List: "a,b"`))
	checkNotFound(t, lists, request(`X-List: "a, b", c`))
	checkNotFound(t, lists, request(`X-List: "a,b`))
	checkNotFound(t, lists, request("X-List: a", "X-List: a"))
	checkNotFound(t, lists, request("X-List: b", "X-List: c"))
	checkNotFound(t, lists, request("X-List: a", "X-List: b", "X-List: c", "X-List: d"))
}

// Names that only resemble one of the four have no ranges.
func TestRankedOfNamesThatResembleTheFour(t *testing.T) {
	for _, name := range []string{"accept-", "-accept", "accept-languages", "accept-language-", "accept_language", "acceptlanguage", "x-accept", "content-language", "accept-charse", "accept-encodings", "accept-ranges", "te", "vary", "variants", "*", "0", strings.Repeat("accept", 1000)} {
		values := axis(name, "a/b", "en", "gzip", "identity", "*")
		checkNotFound(t, values, nil)
		checkNotFound(t, values, request(name+": a/*"))
		checkNotFound(t, values, request(name+": en, gzip"))
		checkNotFound(t, values, request(name+": EN"))
		checkNotFound(t, values, request(name+": x-gzip"))
		checkNotFound(t, values, request(name+": en;q=0.5"))
		checkFound(t, values, request(name+": gzip"), "gzip")
		checkFound(t, values, request(name+": *"), "*")
	}
}

func TestRankedOfLongValuesOfOtherNames(t *testing.T) {
	long := strings.Repeat("a", 100)
	checkFound(t, axis("dpr", "1", long), request("DPR: "+long), long)
	checkNotFound(t, axis("dpr", "1", long), request("DPR: "+long+"a"))
	checkNotFound(t, axis("dpr", "1", long), request("DPR: "+long[1:]))
	// 34 members of one byte are the longest list that can be a value.
	members := strings.TrimSuffix(strings.Repeat("a, ", 34), ", ")
	checkFound(t, axis("dpr", "1", members), request("DPR: "+members), members)
	checkNotFound(t, axis("dpr", "1", members), request("DPR: "+members+", a"))
	checkNotFound(t, axis("dpr", "1", members), request("DPR: "+strings.Repeat("a,", 100000)))
	checkNotFound(t, axis("dpr", "1", long), request("DPR: "+strings.Repeat("a", 1000000)))
}

// Each byte that is replaced by another one leaves another value.
func TestRankedOfEveryByteOfOtherNames(t *testing.T) {
	const value = "a;B-1"
	a := axis("dpr", "x", value)
	for at := range len(value) {
		for b := range 256 {
			changed := value[:at] + string([]byte{byte(b)}) + value[at+1:]
			if changed == value {
				checkFound(t, a, request("DPR: "+changed), value)
				continue
			}
			checkNotFound(t, a, request("DPR: "+changed))
		}
	}
}

// Promise 17.1, the choice by default

// Strict matters only if no value is acceptable.
func TestRankedChoosesTheFirstValueOnly(t *testing.T) {
	for _, a := range append(fourAxes(), axis("dpr", "b", "c"), axis("dpr", "c", "b"), axis("accept-language", numbered("", 10)[9:]...)) {
		l := request(a.Name + ": x")
		checkRanked(t, a, l, false, a.Values[0])
		checkRanked(t, a, l, true)
	}
	sixteen := axis("accept-language", strings.Fields("p o n m l k j i h g f e d c b a")...)
	checkRanked(t, sixteen, request("Accept-Language: *;q=0"), false, "p")
	checkRanked(t, sixteen, request("Accept-Language: *;q=0"), true)
	// An excluded value is chosen, too, but only by default.
	checkRanked(t, sixteen, request("Accept-Language: p;q=0"), false, "p")
	checkRanked(t, sixteen, request("Accept-Language: p;q=0, a"), false, "a")
}

// Promise 17.1, axes that are not valid

// invalidAxes returns single axes that are not valid.
func invalidAxes() []api.Axis {
	return []api.Axis{
		{},
		axis("dpr"),
		{Name: "dpr", Values: []string{}},
		axis("accept-language"),
		axis("", "1"),
		axis("DPR", "1", "2"),
		axis("Accept-Language", "en"),
		axis("accept-languagE", "en"),
		axis("a b", "1"),
		axis("a:", "1"),
		axis("\xe4", "1"),
		axis("dpr", ""),
		axis("dpr", "1", "2", "1"),
		axis("dpr", "1 "),
		axis("dpr", "1", "\x00"),
		axis("dpr", "1", strings.Repeat("a", 101)),
		axis("accept", "text/html", "text/*"),
		axis("accept", "text/html;q=1"),
		axis("accept", "text/html;a=b;a=c"),
		axis("accept", "en"),
		axis("accept-language", "en", "*"),
		axis("accept-language", "en", "EN"),
		axis("accept-language", "e1"),
		axis("accept-charset", "*"),
		axis("accept-charset", "utf 8"),
		axis("accept-encoding", "gzip", "X-GZIP"),
		axis("accept-encoding", "identity", ""),
		axis("dpr", numbered("", 17)...),
		axis("accept", numbered("a/", 17)...),
		axis("accept-language", numbered("", 65537)...),
	}
}

func TestRankedOfAxesThatAreNotValid(t *testing.T) {
	for _, a := range invalidAxes() {
		for _, l := range [][]api.Field{nil, request(a.Name + ": *, */*"), request(a.Name + ": 1"), request(a.Name + ": en, gzip, identity"), request(a.Name + ": *;q=0"), request(a.Name + ": ")} {
			checkRanked(t, a, l, false)
			checkRanked(t, a, l, true)
		}
	}
}

func TestRankedByTheNumberOfValues(t *testing.T) {
	for count := 1; count <= 16; count++ {
		languages := axis("accept-language", numbered("", count)...)
		checkFound(t, languages, nil, languages.Values...)
		checkFound(t, languages, request("Accept-Language: v-"+strconv.Itoa(count-1)), languages.Values[count-1])
		ratios := axis("dpr", numbered("", count)...)
		checkFound(t, ratios, request("DPR: v-"+strconv.Itoa(count-1)), ratios.Values[count-1])
		checkNotFound(t, ratios, request("DPR: v-"+strconv.Itoa(count)))
	}
}

// Rules R4 and R6

func TestRankedSharesNoMemory(t *testing.T) {
	for _, line := range []string{"Host: a", "Accept-Language: it", "Accept-Language: en, fr"} {
		whole := []string{"en", "fr", "behind"}
		a := api.Axis{Name: "accept-language", Values: whole[:2]}
		first, second := selection.Ranked(a, request(line), false), selection.Ranked(a, request(line), false)
		want := slices.Clone(second)
		for i := range first {
			first[i] = "changed"
		}
		_ = append(first, "changed", "changed")
		_ = append(first[:0], slices.Repeat([]string{"changed"}, cap(first))...)
		if !slices.Equal(second, want) || !slices.Equal(whole, []string{"en", "fr", "behind"}) {
			t.Errorf("a change of a result has changed another one to %q, or the values to %q", second, whole)
		}
		a.Values[0], a.Values[1] = "x", "y"
		if !slices.Equal(second, want) {
			t.Errorf("a change of the values has changed a result to %q", second)
		}
	}
}
