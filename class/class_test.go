package class_test

import (
	"fmt"
	"slices"
	"strconv"
	"strings"
	"testing"

	"variantproxy/api"
	"variantproxy/class"
	"variantproxy/selection"
)

func axis(name string, values ...string) api.Axis {
	return api.Axis{Name: name, Values: values}
}

// request returns the fields that the lines hold.
func request(lines ...string) []api.Field {
	var l []api.Field
	for _, line := range lines {
		name, value, _ := strings.Cut(line, ": ")
		l = append(l, api.Field{Name: name, Value: value})
	}
	return l
}

// numbered returns count different values of every axis but Accept, and those of
// Accept with a type before them.
func numbered(before string, count int) []string {
	var values []string
	for i := range count {
		values = append(values, before+"v-"+strconv.Itoa(i))
	}
	return values
}

// exampleAxes returns the axes of chapter 15's example.
func exampleAxes() []api.Axis {
	return []api.Axis{axis("accept-language", "en", "fr"), axis("accept-encoding", "gzip", "identity")}
}

// clone returns a copy of the axes that shares no memory with them.
func clone(axes []api.Axis) []api.Axis {
	copied := slices.Clone(axes)
	for i := range copied {
		copied[i].Values = slices.Clone(copied[i].Values)
	}
	return copied
}

func equalAxes(a, b []api.Axis) bool {
	return slices.EqualFunc(a, b, func(one, other api.Axis) bool {
		return one.Name == other.Name && slices.Equal(one.Values, other.Values)
	})
}

// shortened returns the beginning of the text of a list.
func shortened[T any](l []T) string {
	return fmt.Sprintf("%.300q", fmt.Sprint(l[:min(len(l), 20)]))
}

// checkClass expects this text, and of Same that a request is in its own class if it
// has one.
func checkClass(t *testing.T, axes []api.Axis, l []api.Field, strict bool, want string) {
	t.Helper()
	axesBefore, fieldsBefore := clone(axes), slices.Clone(l)
	if got := class.Class(axes, l, strict); got != want {
		t.Errorf("Class(%s, %s, %v) = %.300q, not %.300q", shortened(axes), shortened(l), strict, got, want)
	}
	if class.Same(axes, l, slices.Clone(l), strict) != (want != "") {
		t.Errorf("Same(%s, %s twice, %v) is %v", shortened(axes), shortened(l), strict, want == "")
	}
	if !equalAxes(axes, axesBefore) || !slices.Equal(l, fieldsBefore) {
		t.Errorf("Class or Same has changed the arguments to %s, %s", shortened(axes), shortened(l))
	}
}

// checkClassFound expects this text of a request that accepts a value of each axis, so
// that strict does not matter.
func checkClassFound(t *testing.T, axes []api.Axis, l []api.Field, want string) {
	t.Helper()
	checkClass(t, axes, l, false, want)
	checkClass(t, axes, l, true, want)
}

// checkSame expects that both requests are in one class or not, in either order.
func checkSame(t *testing.T, want bool, axes []api.Axis, a, b []api.Field, strict bool) {
	t.Helper()
	axesBefore, aBefore, bBefore := clone(axes), slices.Clone(a), slices.Clone(b)
	if class.Same(axes, a, b, strict) != want || class.Same(axes, b, a, strict) != want {
		t.Errorf("Same(%s, %s, %s, %v) is not %v", shortened(axes), shortened(a), shortened(b), strict, want)
	}
	if !equalAxes(axes, axesBefore) || !slices.Equal(a, aBefore) || !slices.Equal(b, bBefore) {
		t.Errorf("Same has changed its arguments to %s, %s, %s", shortened(axes), shortened(a), shortened(b))
	}
}

// Promise 18.1, Class

func TestExample(t *testing.T) {
	checkClassFound(t, exampleAxes(), nil, "accept-language=(en fr), accept-encoding=(gzip identity)")
	checkClassFound(t, exampleAxes(), request("Host: a", "DPR: 2"), "accept-language=(en fr), accept-encoding=(gzip identity)")
}

// The examples 1 to 3 of the document.
func TestExamplesOfTheDocument(t *testing.T) {
	languages := []api.Axis{axis("accept-language", "en", "fr")}
	checkClassFound(t, languages, request("Accept-Language: EN, fr;q=0.5"), "accept-language=(en fr)")
	checkClassFound(t, languages, request("Accept-Language: fr"), "accept-language=(fr)")
	codings := []api.Axis{axis("accept-encoding", "identity", "br", "gzip")}
	checkClassFound(t, codings, request("Accept-Encoding: gzip"), "accept-encoding=(gzip identity)")
	checkClass(t, codings, request("Accept-Encoding: identity;q=0, *;q=0"), true, "accept-encoding=()")
	types := []api.Axis{axis("accept", "text/plain", "text/html", "image/png")}
	checkClassFound(t, types, request("Accept: text/*;q=0.3, text/html;q=0.7"), "accept=(text/html text/plain)")
}

// The values stand in the order of the request, those of one quality in that of the
// axis.
func TestClassOfRankedValues(t *testing.T) {
	languages := []api.Axis{axis("accept-language", "en", "fr", "de-CH", "de")}
	checkClassFound(t, languages, request("Accept-Language: fr, en;q=0.5"), "accept-language=(fr en)")
	checkClassFound(t, languages, request("Accept-Language: de;q=0.9, *;q=0.1, fr;q=0.2"), "accept-language=(de-CH de fr en)")
	checkClassFound(t, languages, request("Accept-Language: *, de;q=0, fr;q=0.5"), "accept-language=(en fr)")
	charsets := []api.Axis{axis("accept-charset", "iso-8859-1", "utf-8", "x-gzip")}
	checkClassFound(t, charsets, request("Accept-Charset: UTF-8, *;q=0.5"), "accept-charset=(utf-8 iso-8859-1 x-gzip)")
	checkClassFound(t, charsets, request("Accept-Charset: gzip, utf-8;q=0.1"), "accept-charset=(utf-8)")
	codings := []api.Axis{axis("accept-encoding", "identity", "x-gzip", "br")}
	checkClassFound(t, codings, request("Accept-Encoding: GZIP, br;q=0"), "accept-encoding=(x-gzip identity)")
	checkClassFound(t, codings, request("Accept-Encoding: "), "accept-encoding=(identity)")
	types := []api.Axis{axis("accept", "text/html", "text/plain", "text/html;level=1")}
	checkClassFound(t, types, request("Accept: text/html;level=1, text/plain;q=0.5"), "accept=(text/html;level=1 text/plain)")
	ratios := []api.Axis{axis("dpr", "1", "2", "a, b")}
	checkClassFound(t, ratios, request("DPR: 2"), "dpr=(2)")
	checkClassFound(t, ratios, request("DPR: a", "dpr: b"), `dpr=("a, b")`)
}

// Values are the axis's own spellings.
func TestClassKeepsTheSpellingOfTheAxis(t *testing.T) {
	axes := []api.Axis{axis("accept-language", "de-CH", "EN"), axis("accept-encoding", "X-Gzip", "Identity"), axis("accept", "Text/HTML; Level=1")}
	l := request("Accept-Language: en, DE;q=0.5", "Accept-Encoding: gzip", "Accept: text/html")
	checkClassFound(t, axes, l, `accept-language=(EN de-CH), accept-encoding=(X-Gzip Identity), accept=("Text/HTML; Level=1")`)
}

// Axes stand in their order, whatever the order of the fields is.
func TestClassOfSeveralAxes(t *testing.T) {
	one, two, three, four := axis("dpr", "1", "2"), axis("accept", "a/b", "a/c"), axis("accept-charset", "c", "d"), axis("width", "1", "2")
	l := request("Width: 1", "DPR: 2", "Accept-Charset: d, c;q=0.5", "Accept: a/c, */*;q=0.1")
	checkClassFound(t, []api.Axis{one}, l, "dpr=(2)")
	checkClassFound(t, []api.Axis{one, two}, l, "dpr=(2), accept=(a/c a/b)")
	checkClassFound(t, []api.Axis{one, two, three}, l, "dpr=(2), accept=(a/c a/b), accept-charset=(d c)")
	checkClassFound(t, []api.Axis{one, two, three, four}, l, "dpr=(2), accept=(a/c a/b), accept-charset=(d c), width=(1)")
	checkClassFound(t, []api.Axis{four, three, two, one}, l, "width=(1), accept-charset=(d c), accept=(a/c a/b), dpr=(2)")
	slices.Reverse(l)
	checkClassFound(t, []api.Axis{one, two, three, four}, l, "dpr=(2), accept=(a/c a/b), accept-charset=(d c), width=(1)")
}

// If strict is true, an axis without an acceptable value has none in the class, and
// the other axes have theirs; otherwise it has its first value.
func TestClassWithoutAcceptableValue(t *testing.T) {
	axes := []api.Axis{axis("accept-language", "en", "fr"), axis("dpr", "1", "2"), axis("accept-encoding", "gzip", "identity")}
	for _, test := range []struct {
		l               []api.Field
		strict, lenient string
	}{
		{request("Accept-Language: it", "DPR: 2"), "accept-language=(), dpr=(2), accept-encoding=(gzip identity)", "accept-language=(en), dpr=(2), accept-encoding=(gzip identity)"},
		{request("Accept-Language: fr"), "accept-language=(fr), dpr=(), accept-encoding=(gzip identity)", "accept-language=(fr), dpr=(1), accept-encoding=(gzip identity)"},
		{request("DPR: 2", "Accept-Encoding: *;q=0"), "accept-language=(en fr), dpr=(2), accept-encoding=()", "accept-language=(en fr), dpr=(2), accept-encoding=(gzip)"},
		{request("Accept-Language: *;q=0", "Accept-Encoding: *;q=0", "DPR: 3"), "accept-language=(), dpr=(), accept-encoding=()", "accept-language=(en), dpr=(1), accept-encoding=(gzip)"},
	} {
		checkClass(t, axes, test.l, true, test.strict)
		checkClass(t, axes, test.l, false, test.lenient)
	}
	checkClass(t, []api.Axis{axis("dpr", "1 2", "3")}, nil, true, "dpr=()")
	checkClass(t, []api.Axis{axis("dpr", "1 2", "3")}, nil, false, `dpr=("1 2")`)
}

// Values are quoted as in variants.Format.
func TestClassQuotesValues(t *testing.T) {
	for value, want := range map[string]string{
		"2":         "2",
		"2 x":       `"2 x"`,
		"2\tx":      "\"2\tx\"",
		"(2":        `"(2"`,
		"2)":        `"2)"`,
		`\`:         `\`,
		`\ \`:       `"\\ \\"`,
		"a, b":      `"a, b"`,
		`"2"`:       `"\"2\""`,
		`"a\"b"`:    `"\"a\\\"b\""`,
		"\xe4":      "\"\xe4\"",
		"a=b;c/d*~": "a=b;c/d*~",
	} {
		checkClassFound(t, []api.Axis{axis("x", "1", value), axis("accept-language", "en")}, request("X: "+value), "x=("+want+"), accept-language=(en)")
		checkClass(t, []api.Axis{axis("accept-language", "en"), axis("x", value, "1")}, nil, false, "accept-language=(en), x=("+want+")")
	}
	types := []api.Axis{axis("accept", `a/b;c="d e"`, "a/b;c=d", "a/b; c=e", `a/b;c="f"`)}
	checkClassFound(t, types, nil, `accept=("a/b;c=\"d e\"" a/b;c=d "a/b; c=e" "a/b;c=\"f\"")`)
}

// Every byte that may stand in a value is written as promise 15.4 says.
func TestClassOfEveryByte(t *testing.T) {
	for b := range 256 {
		value := "v" + string([]byte{byte(b)}) + "w"
		want := value
		if b <= 32 || b >= 127 || strings.ContainsRune(`(),"`, rune(b)) {
			want = `"` + strings.ReplaceAll(value, `"`, `\"`) + `"`
		}
		want = "x=(" + want + ")"
		if b < 32 && b != '\t' || b == 127 {
			want = ""
		}
		checkClass(t, []api.Axis{axis("x", value)}, nil, false, want)
	}
}

// A class holds all values, though Keys returns only the first MaxKeys keys of them.
func TestClassHasNoLimitOfItsOwn(t *testing.T) {
	var texts []string
	var axes []api.Axis
	for _, name := range []string{"accept-language", "accept-charset", "accept-encoding", "accept"} {
		before := ""
		if name == "accept" {
			before = "a/"
		}
		sixteen := numbered(before, 16)
		axes = append(axes, axis(name, sixteen...))
		texts = append(texts, name+"=("+strings.Join(sixteen, " ")+")")
		checkClassFound(t, axes, nil, strings.Join(texts, ", "))
	}
	long := strings.Repeat("a", 200000)
	checkClass(t, []api.Axis{axis(long, "1"), axis("accept-encoding", long, "b")}, request(long+": 1", "Accept-Encoding: "+long), true, long+"=(1), accept-encoding=("+long+")")
}

// invalidLists returns lists of axes that are not valid: some of their axes are not, or
// they are not together.
func invalidLists() [][]api.Axis {
	five := []api.Axis{axis("a", "1"), axis("b", "1"), axis("c", "1"), axis("d", "1"), axis("e", "1")}
	lists := [][]api.Axis{
		nil,
		{},
		five,
		slices.Repeat(five, 1000),
		{axis("a", "1"), axis("a", "1")},
		{axis("a", "1"), axis("b", "1"), axis("a", "2")},
		{axis("accept-language", "en"), axis("accept-language", "fr")},
		{axis("accept-language", "en"), axis("accept-encoding", "gzip"), axis("dpr", "1"), axis("accept-encoding", "br")},
	}
	for _, a := range []api.Axis{
		{},
		axis("dpr"),
		{Name: "dpr", Values: []string{}},
		axis("", "1"),
		axis("DPR", "1"),
		axis("Accept-Language", "en"),
		axis("a b", "1"),
		axis("dpr", ""),
		axis("dpr", "1", "2", "1"),
		axis("dpr", "1 "),
		axis("dpr", "\x00"),
		axis("dpr", strings.Repeat("a", 101)),
		axis("dpr", numbered("", 17)...),
		axis("accept", "text/html", "text/*"),
		axis("accept", "text/html;q=1"),
		axis("accept", "text/html;a=b;a=c"),
		axis("accept-language", "en", "EN"),
		axis("accept-language", "*"),
		axis("accept-charset", "utf 8"),
		axis("accept-encoding", "gzip", "X-GZIP"),
		axis("accept-encoding", numbered("", 65537)...),
	} {
		lists = append(lists, []api.Axis{a}, []api.Axis{a, axis("x", "1")}, []api.Axis{axis("x", "1"), a}, []api.Axis{axis("x", "1"), a, axis("y", "1")})
	}
	return lists
}

func TestClassOfAxesThatAreNotValid(t *testing.T) {
	for _, axes := range invalidLists() {
		for _, l := range [][]api.Field{nil, request("x: 1", "a: 1", "dpr: 1"), request("Accept-Language: en", "Accept-Encoding: *;q=0", "Accept: */*")} {
			checkClassFound(t, axes, l, "")
		}
	}
}

// Promise 18.1, Same

func TestSame(t *testing.T) {
	for _, strict := range []bool{false, true} {
		checkSame(t, true, exampleAxes(), nil, nil, strict)
		checkSame(t, true, exampleAxes(), nil, request("Host: a"), strict)
		checkSame(t, true, exampleAxes(), nil, request("Accept-Language: *"), strict)
		checkSame(t, true, exampleAxes(), nil, request("Accept-Language: fr;q=0.3, en;q=0.7", "DPR: 1"), strict)
		checkSame(t, true, exampleAxes(), request("Accept-Language: fr"), request("Accept-Language: fr;q=0.001, en;q=0"), strict)
		checkSame(t, true, exampleAxes(), request("Accept-Encoding: gzip"), request("Accept-Encoding: identity;q=0.9, gzip"), strict)
		checkSame(t, true, exampleAxes(), request("Accept-Encoding: br, x-gzip;q=0.5"), nil, strict)
		checkSame(t, false, exampleAxes(), nil, request("Accept-Language: fr"), strict)
		checkSame(t, false, exampleAxes(), request("Accept-Language: en"), request("Accept-Language: fr"), strict)
		checkSame(t, false, exampleAxes(), request("Accept-Language: en, fr;q=0.5"), request("Accept-Language: fr, en;q=0.5"), strict)
		checkSame(t, false, exampleAxes(), request("Accept-Language: fr", "Accept-Encoding: gzip"), request("Accept-Language: fr", "Accept-Encoding: identity"), strict)
		checkSame(t, false, exampleAxes(), request("Accept-Encoding: identity, gzip;q=0.5"), nil, strict)
		ratios := []api.Axis{axis("dpr", "1", "2", "1, 2", "A", "a")}
		checkSame(t, true, ratios, request("DPR: 1", "DPR: 2"), request("dpr:  1 ,, 2\t"), strict)
		checkSame(t, false, ratios, request("DPR: 1, 2"), request("DPR: 2, 1"), strict)
		checkSame(t, false, ratios, request("DPR: A"), request("DPR: a"), strict)
	}
}

// The first value is chosen by default only if strict is false.
func TestSameByStrict(t *testing.T) {
	for _, test := range []struct{ a, b []api.Field }{
		{request("Accept-Language: it"), request("Accept-Language: en")},
		{request("Accept-Language: en;q=0"), request("Accept-Language: en")},
		{request("Accept-Encoding: *;q=0"), request("Accept-Encoding: gzip, identity;q=0")},
		{request("Accept-Language: it", "Accept-Encoding: *;q=0"), request("Accept-Language: en", "Accept-Encoding: *;q=0")},
	} {
		checkSame(t, true, exampleAxes(), test.a, test.b, false)
		checkSame(t, false, exampleAxes(), test.a, test.b, true)
	}
	checkSame(t, true, exampleAxes(), request("Accept-Language: it"), request("Accept-Language: de"), false)
	checkSame(t, true, exampleAxes(), request("Accept-Language: it"), request("Accept-Language: de"), true)
	ratios := []api.Axis{axis("dpr", "1", "2")}
	checkSame(t, true, ratios, nil, request("DPR: 1"), false)
	checkSame(t, false, ratios, nil, request("DPR: 1"), true)
	checkSame(t, true, ratios, nil, request("DPR: 3"), true)
}

// Requests of one class have the same keys, but not the other way round.
func TestSameTellsMoreThanTheKeys(t *testing.T) {
	a, b := request("Accept-Language: it", "Accept-Encoding: gzip"), request("Accept-Language: it", "Accept-Encoding: identity")
	if len(selection.Keys(exampleAxes(), a, true)) != 0 || len(selection.Keys(exampleAxes(), b, true)) != 0 {
		t.Fatal("there are keys")
	}
	checkSame(t, false, exampleAxes(), a, b, true)
	axes := []api.Axis{axis("accept-language", numbered("", 16)...), axis("accept-encoding", numbered("", 16)...)}
	a, b = request("Accept-Language: *, v-14;q=0.2, v-15;q=0.1"), request("Accept-Language: *, v-14;q=0.1, v-15;q=0.2")
	if !slices.EqualFunc(selection.Keys(axes, a, true), selection.Keys(axes, b, true), slices.Equal[[]string]) {
		t.Fatal("the first keys differ")
	}
	checkSame(t, false, axes, a, b, true)
	checkSame(t, false, axes, a, b, false)
}

func TestSameOfAxesThatAreNotValid(t *testing.T) {
	for _, axes := range invalidLists() {
		for _, strict := range []bool{false, true} {
			checkSame(t, false, axes, nil, nil, strict)
			checkSame(t, false, axes, request("x: 1", "dpr: 1"), request("x: 1", "dpr: 1"), strict)
			checkSame(t, false, axes, request("Accept-Language: en"), request("Accept-Language: fr"), strict)
		}
	}
}

// The chapter's consequences

// Only how members are written differs, or members that match nothing.
func TestSameOfRequestsThatAreWrittenDifferently(t *testing.T) {
	axes := append(exampleAxes(), axis("accept", "text/html", "text/html;level=1", "image/png"), axis("accept-charset", "utf-8", "utf-7"))
	plain := request("Accept-Language: fr, en;q=0.5", "Accept-Encoding: gzip;q=0.1, *", "Accept: text/html;level=1, text/html;q=0.2, */*;q=0.3", "Accept-Charset: utf-7, *;q=0.3")
	want := "accept-language=(fr en), accept-encoding=(identity gzip), accept=(text/html;level=1 image/png text/html), accept-charset=(utf-7 utf-8)"
	checkClassFound(t, axes, plain, want)
	for _, l := range [][]api.Field{
		request("Accept-Language: \tfr \t,\ten;q=0.5  ", "Accept-Encoding: gzip;q=0.1,*", "Accept:  text/html;level=1\t, text/html;q=0.2\t,*/*;q=0.3\t", "Accept-Charset: utf-7,,, ,*;q=0.3,"),
		request("accept-language: FR, EN;q=0.5", "ACCEPT-ENCODING: GZIP;q=0.1, *", "accept: TEXT/Html;LEVEL=1, Text/HTML;q=0.2, */*;q=0.3", "ACCEPT-charset: UTF-7, *;q=0.3"),
		request("Accept-Language: fr", "Accept-Encoding: gzip;q=0.1", "Accept: text/html;level=1", "Accept-Encoding: *", "Accept: text/html;q=0.2, */*;q=0.3", "Accept-Charset: ", "Accept-Charset: utf-7", "Accept-Language: en;q=0.5", "Accept-Charset: *;q=0.3"),
		request("Accept-Language: it, fr, fr-CH;q=0.3, e-n, en;q=0.5, en-US;q=0", "Accept-Encoding: zstd, gzip;q=0.1, *, br;q=0, g zip", "Accept: video/*, text/html;level=2;q=0.1, text/html;level=1, html, text/html;q=0.2, */*;q=0.3", "Accept-Charset: utf-7, utf-8;q=1.1, *;q=0.3, iso-8859-1"),
	} {
		checkClassFound(t, axes, l, want)
		checkSame(t, true, axes, plain, l, true)
		checkSame(t, true, axes, plain, l, false)
	}
}

// Members that match nothing count towards MaxMembers.
func TestSameByTheNumberOfMembers(t *testing.T) {
	axes := []api.Axis{axis("accept-language", "en", "fr")}
	with := func(count int) []api.Field {
		return request("Accept-Language: fr;q=0.5, " + strings.Repeat("it, ", count) + "en")
	}
	for _, strict := range []bool{false, true} {
		checkClass(t, axes, with(62), strict, "accept-language=(en fr)")
		checkSame(t, true, axes, with(0), with(62), strict)
		checkClass(t, axes, with(63), strict, "accept-language=(fr)")
		checkSame(t, false, axes, with(62), with(63), strict)
		checkSame(t, true, axes, with(63), with(100000), strict)
	}
}

// Rules R4 and R6

func TestClassOfRepeatedCalls(t *testing.T) {
	axes, l := exampleAxes(), request("Accept-Language: fr", "Accept-Encoding: gzip")
	first := class.Class(axes, l, true)
	axes[0].Values[1], axes[1].Name, l[0].Value = "it", "dpr", "en"
	for range 100 {
		checkClassFound(t, exampleAxes(), request("Accept-Language: fr", "Accept-Encoding: gzip"), first)
		checkClass(t, exampleAxes(), request("Accept-Language: it", "Accept-Encoding: *;q=0"), true, "accept-language=(), accept-encoding=()")
		checkClass(t, nil, nil, true, "")
	}
	if first != "accept-language=(fr), accept-encoding=(gzip identity)" {
		t.Errorf("the class has become %q", first)
	}
}
