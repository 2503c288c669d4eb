package variantkey_test

import (
	"fmt"
	"slices"
	"strconv"
	"strings"
	"testing"

	"variantproxy/api"
	"variantproxy/variantkey"
)

func single(b int) string {
	return string([]byte{byte(b)})
}

func axis(name string, values ...string) api.Axis {
	return api.Axis{Name: name, Values: values}
}

func key(values ...string) []string {
	return values
}

// numbered returns count different values.
func numbered(count int) []string {
	var values []string
	for i := range count {
		values = append(values, "v"+strconv.Itoa(i))
	}
	return values
}

// fields returns fields named Variant-Key with these values.
func fields(values ...string) []api.Field {
	var l []api.Field
	for _, value := range values {
		l = append(l, api.Field{Name: "Variant-Key", Value: value})
	}
	return l
}

// exampleAxes returns the axes of chapter 15's example.
func exampleAxes() []api.Axis {
	return []api.Axis{axis("accept-language", "en", "fr"), axis("accept-encoding", "gzip", "identity")}
}

func otherAxes() []api.Axis {
	return []api.Axis{axis("a", "1", "2", "3 4", `"`, "A", "b,c", "(d)", `\`, "\xff")}
}

// cloneAxes and cloneKeys return copies that share no memory with their arguments.
func cloneAxes(axes []api.Axis) []api.Axis {
	copied := slices.Clone(axes)
	for i := range copied {
		copied[i].Values = slices.Clone(copied[i].Values)
	}
	return copied
}

func cloneKeys(keys [][]string) [][]string {
	copied := slices.Clone(keys)
	for i := range copied {
		copied[i] = slices.Clone(copied[i])
	}
	return copied
}

func equalAxes(a, b []api.Axis) bool {
	return slices.EqualFunc(a, b, func(one, other api.Axis) bool {
		return one.Name == other.Name && slices.Equal(one.Values, other.Values)
	})
}

func equalKeys(a, b [][]string) bool {
	return slices.EqualFunc(a, b, slices.Equal[[]string])
}

// shortened returns the beginning of the text of a list.
func shortened[T any](l []T) string {
	return fmt.Sprintf("%.300q", fmt.Sprint(l[:min(len(l), 20)]))
}

func checkParse(t *testing.T, l []api.Field, axes []api.Axis, want [][]string, wantError api.Errno) {
	t.Helper()
	fieldsBefore, axesBefore := slices.Clone(l), cloneAxes(axes)
	if got, errno := variantkey.Parse(l, axes); !equalKeys(got, want) || errno != wantError {
		t.Errorf("Parse(%s, %s) = %s, %d, not %s, %d", shortened(l), shortened(axes), shortened(got), errno, shortened(want), wantError)
	}
	if !slices.Equal(l, fieldsBefore) || !equalAxes(axes, axesBefore) {
		t.Errorf("Parse has changed its arguments to %s, %s", shortened(l), shortened(axes))
	}
}

// checkKeys expects the keys of the field with this value.
func checkKeys(t *testing.T, axes []api.Axis, value string, want ...[]string) {
	t.Helper()
	checkParse(t, fields(value), axes, want, api.OK)
	if keys, errno := expectedParse(fields(value), axes); !equalKeys(keys, want) || errno != api.OK {
		t.Errorf("the model is wrong in Parse(%.80q, %s)", value, shortened(axes))
	}
}

// checkErrors expects this error for each value, also with a good member beside it.
func checkErrors(t *testing.T, axes []api.Axis, good string, want api.Errno, values ...string) {
	t.Helper()
	for _, value := range values {
		checkParse(t, fields(value), axes, nil, want)
		checkParse(t, fields(value, good), axes, nil, want)
		checkParse(t, fields(good, value), axes, nil, want)
		checkParse(t, fields(good+", "+value), axes, nil, want)
	}
}

// Promise 16.1

func TestExample(t *testing.T) {
	checkKeys(t, exampleAxes(), "(FR gzip), (en gzip)", key("fr", "gzip"), key("en", "gzip"))
}

func TestParse(t *testing.T) {
	checkKeys(t, exampleAxes(), "(en gzip)", key("en", "gzip"))
	checkKeys(t, exampleAxes(), "(fr identity), (en gzip), (en identity), (fr gzip)", key("fr", "identity"), key("en", "gzip"), key("en", "identity"), key("fr", "gzip"))
	checkKeys(t, otherAxes(), "(2), (1)", key("2"), key("1"))
	checkKeys(t, []api.Axis{axis("a", "1"), axis("b", "1", "2"), axis("c", "2", "1"), axis("accept", "a/b")}, "(1 2 1 A/B), (1 1 2 a/b)", key("1", "2", "1", "a/b"), key("1", "1", "2", "a/b"))
}

// A value is returned as the axis has it, however the field spells it.
func TestParseReturnsTheValuesOfTheAxes(t *testing.T) {
	checkKeys(t, []api.Axis{axis("accept-language", "EN", "de-CH")}, "(en), (DE-ch)", key("EN"), key("de-CH"))
	checkKeys(t, []api.Axis{axis("accept-charset", "UTF-8", "gzip")}, "(Gzip), (utf-8)", key("gzip"), key("UTF-8"))
	checkKeys(t, []api.Axis{axis("accept-encoding", "X-Gzip", "compress", "BR")}, "(gzip)", key("X-Gzip"))
	checkKeys(t, []api.Axis{axis("accept-encoding", "gzip", "compress", "BR")}, "(x-GZIP), (X-Compress), (br)", key("gzip"), key("compress"), key("BR"))
	checkKeys(t, []api.Axis{axis("accept", "Text/HTML;Level=A", "image/png")}, "(text/html;level=a), (IMAGE/PNG)", key("Text/HTML;Level=A"), key("image/png"))
	checkKeys(t, []api.Axis{axis("accept", `text/html;a="B, c"`)}, `("TEXT/html;a=\"b, C\"")`, key(`text/html;a="B, c"`))
	checkKeys(t, []api.Axis{axis("a", "b", "B")}, "(B), (b)", key("B"), key("b"))
}

func TestParseOfQuotedValues(t *testing.T) {
	checkKeys(t, otherAxes(), `("1")`, key("1"))
	checkKeys(t, otherAxes(), `("\1" )`, key("1"))
	checkKeys(t, otherAxes(), `("3 4"), ("\""), ("b,c"), ("(d)"), (\), ("\\")`, key("3 4"), key(`"`), key("b,c"), key("(d)"), key(`\`))
	checkKeys(t, otherAxes(), "(\xff), (\"\xff\"), (\"\\\xff\")", key("\xff"))
	checkKeys(t, exampleAxes(), `("FR" "x-gzip"), (en "i\dentity")`, key("fr", "gzip"), key("en", "identity"))
}

func TestParseOfSpaces(t *testing.T) {
	for _, value := range []string{"( en gzip)", "(en gzip )", "(en   gzip)", "(  en    gzip  )", " \t(en gzip)\t ", ",, (en gzip) ,\t,"} {
		checkKeys(t, exampleAxes(), value, key("en", "gzip"))
	}
	checkKeys(t, exampleAxes(), "("+strings.Repeat(" ", 1000)+"en"+strings.Repeat(" ", 1000)+"gzip"+strings.Repeat(" ", 1000)+"),(fr gzip)", key("en", "gzip"), key("fr", "gzip"))
	checkErrors(t, exampleAxes(), "(en gzip)", api.ErrSyntax, "(en\tgzip)", "(\ten gzip)", "(en gzip\t)", "(en \t gzip)", "(\t)", "(en gzip)\n", "\v(en gzip)")
}

func TestParseOfMalformedMembers(t *testing.T) {
	checkErrors(t, exampleAxes(), "(en gzip)", api.ErrSyntax,
		"en", "en gzip", "en;gzip", "(", ")", "(en gzip", "en gzip)", "((en gzip))", "(en gzip))", "((en gzip)", "(en) (gzip)", "(en)(gzip)", "(en gzip) x", "x(en gzip)", "(en gzip)x", "=(en gzip)", "a=(en gzip)", "(en (gzip))", "[en gzip]", "(en, gzip)", "(en,gzip)", "(,)", "*", `"(en gzip)"`, ";", "=")
	checkErrors(t, exampleAxes(), "(en gzip)", api.ErrSyntax,
		`("en"gzip)`, `("en""gzip")`, `(en"gzip")`, `("en" gzip"")`, `(\"en gzip)`, "(\"\x00\" gzip)", "(en \"gzip\n\")", "(en \"\x7f\")", "(en \"gzip\\\x01\")")
}

// What begins with a quoted string that is not ended goes to the end of the field.
func TestParseOfQuotedStringsThatAreNotEnded(t *testing.T) {
	for _, value := range []string{`"`, `(")`, `("en gzip)`, `(en "gzip)`, `(en "gzip`, `("en\" gzip)`, `(en gzip")`, `("en gzip), (en gzip)`} {
		checkParse(t, fields(value), exampleAxes(), nil, api.ErrSyntax)
		checkParse(t, fields(value, "(en gzip)"), exampleAxes(), nil, api.ErrSyntax)
		checkParse(t, fields("(en gzip), "+value), exampleAxes(), nil, api.ErrSyntax)
	}
}

func TestParseLeavesEqualKeysOut(t *testing.T) {
	checkKeys(t, exampleAxes(), "(en gzip), (en gzip)", key("en", "gzip"))
	checkKeys(t, exampleAxes(), "(en gzip), (EN gzip), (en X-GZIP), (\"En\" \"x-gZIP\")", key("en", "gzip"))
	checkKeys(t, exampleAxes(), "(fr gzip), (en gzip), (FR gzip), (en identity), (EN gzip), (fr identity), (fr gzip)", key("fr", "gzip"), key("en", "gzip"), key("en", "identity"), key("fr", "identity"))
	checkParse(t, fields("(en gzip)", "(fr gzip), (EN x-gzip)", "(FR GZIP)"), exampleAxes(), [][]string{key("en", "gzip"), key("fr", "gzip")}, api.OK)
	// Keys with one value in common are different ones.
	checkKeys(t, exampleAxes(), "(en gzip), (en identity)", key("en", "gzip"), key("en", "identity"))
	checkKeys(t, exampleAxes(), "(en gzip), (fr gzip)", key("en", "gzip"), key("fr", "gzip"))
	// The same values in another order are another key.
	both := []api.Axis{axis("a", "1", "2"), axis("b", "1", "2")}
	checkKeys(t, both, "(1 2), (2 1), (1 1), (1 2)", key("1", "2"), key("2", "1"), key("1", "1"))
	joined := []api.Axis{axis("a", "1 2", "1"), axis("b", "3", "2 3")}
	checkKeys(t, joined, `("1 2" 3), (1 "2 3")`, key("1 2", "3"), key("1", "2 3"))
}

func TestParseOfNoField(t *testing.T) {
	checkParse(t, nil, exampleAxes(), nil, api.ErrState)
	checkParse(t, []api.Field{}, exampleAxes(), nil, api.ErrState)
	for _, name := range []string{"", "Variant", "Variants", "Variant-Keys", "Variant-Key ", " Variant-Key", "VariantKey", "Variant_Key", "Variant-\u212aey", "Variant-Ke", "ariant-Key", "X-Variant-Key", "Key"} {
		checkParse(t, []api.Field{{Name: name, Value: "(en gzip)"}}, exampleAxes(), nil, api.ErrState)
		checkParse(t, []api.Field{{Name: name, Value: "("}}, exampleAxes(), nil, api.ErrState)
		checkParse(t, []api.Field{{Name: name, Value: "("}, {Name: "Variant-Key", Value: "(en gzip)"}, {Name: name, Value: "()"}}, exampleAxes(), [][]string{key("en", "gzip")}, api.OK)
	}
	checkParse(t, []api.Field{{Name: "a", Value: "Variant-Key"}}, exampleAxes(), nil, api.ErrState)
}

func TestParseOfTheNameInAnyCase(t *testing.T) {
	for _, name := range []string{"Variant-Key", "variant-key", "VARIANT-KEY", "vARIANT-kEY"} {
		checkParse(t, []api.Field{{Name: name, Value: "(en gzip)"}}, exampleAxes(), [][]string{key("en", "gzip")}, api.OK)
	}
	checkParse(t, []api.Field{{Name: "VARIANT-KEY", Value: "(fr gzip)"}, {Name: "Vary", Value: "x"}, {Name: "variant-key", Value: ""}, {Name: "Variant-Key", Value: "(en gzip), (fr identity)"}}, exampleAxes(),
		[][]string{key("fr", "gzip"), key("en", "gzip"), key("fr", "identity")}, api.OK)
}

func TestParseOfFieldsWithoutMembers(t *testing.T) {
	for _, value := range []string{"", " ", ",", " ,\t, ", strings.Repeat(",", 1000)} {
		checkParse(t, fields(value), exampleAxes(), nil, api.ErrState)
		checkParse(t, fields(value, value), exampleAxes(), nil, api.ErrState)
		checkParse(t, fields(value, "(en gzip)", value), exampleAxes(), [][]string{key("en", "gzip")}, api.OK)
		checkParse(t, fields(value, "()"), exampleAxes(), nil, api.ErrLimit)
		checkParse(t, fields(value, "("), exampleAxes(), nil, api.ErrSyntax)
	}
}

// A member does not go on in the next field.
func TestParseOfMembersInSeveralFields(t *testing.T) {
	checkParse(t, fields("(en", "gzip)"), exampleAxes(), nil, api.ErrSyntax)
	checkParse(t, fields(`("en`, `" gzip)`), exampleAxes(), nil, api.ErrSyntax)
	checkParse(t, fields("(en gzip)", "(fr gzip)"), exampleAxes(), [][]string{key("en", "gzip"), key("fr", "gzip")}, api.OK)
}

func TestParseOfAnotherNumberOfValues(t *testing.T) {
	checkErrors(t, exampleAxes(), "(en gzip)", api.ErrLimit, "()", "( )", "(en)", "(gzip)", "(en gzip gzip)", "(en gzip identity)", "(en en gzip gzip)", `("en gzip")`, `(en gzip "")`, `("" en gzip)`, "(en gzip en gzip)", "("+strings.Repeat("en ", 16)+")")
	checkErrors(t, otherAxes(), "(1)", api.ErrLimit, "()", "(1 1)", "(1 2)", "(3 4)", `("" 1)`, `(1 "")`)
	four := []api.Axis{axis("a", "1"), axis("b", "1"), axis("c", "1"), axis("d", "1")}
	for count := range 9 {
		member := "(" + strings.Repeat("1 ", count) + ")"
		if count == 4 {
			checkKeys(t, four, member, key("1", "1", "1", "1"))
			continue
		}
		checkErrors(t, four, "(1 1 1 1)", api.ErrLimit, member)
	}
}

func TestParseOfValuesThatNoAxisHas(t *testing.T) {
	checkErrors(t, exampleAxes(), "(en gzip)", api.ErrLimit, "(de gzip)", "(en br)", "(gzip en)", "(en en)", "(gzip gzip)", "(en-GB gzip)", "(e gzip)", "(* gzip)", "(en *)", `("" gzip)`, `(en "")`, "(en x-identity)", "(en gzi)", "(x-en gzip)", `(" en" gzip)`, `(en "gzip ")`, `("en,fr" gzip)`, "(\x00 gzip)", "(en;q=1 gzip)", "(e\u0144 gzip)", `(en \gzip)`, "(en 'gzip')")
	checkErrors(t, otherAxes(), "(1)", api.ErrLimit, "(a)", "(3)", "(11)", `("3  4")`, `("1 ")`, `("B,C")`, "(01)", "(1.0)", `(\\)`, "(\xdf)", "(\xfe)", "(\u00ff)")
	checkErrors(t, []api.Axis{axis("accept", "text/html;a=b", `text/css;a="b"`)}, "(text/html;a=b)", api.ErrLimit, "(text/html)", `("text/html; a=b")`, `("text/html;a=\"b\"")`, "(text/css;a=b)", "(text/*)", "(*/*)", "(text/html;a=b;q=1)")
	checkErrors(t, []api.Axis{axis("accept-charset", "gzip", "utf-8")}, "(gzip)", api.ErrLimit, "(x-gzip)", "(utf8)", "(*)")
	// A value counts only in the place of its axis.
	swapped := []api.Axis{axis("a", "1", "2"), axis("b", "2", "3")}
	checkKeys(t, swapped, "(2 2), (1 3)", key("2", "2"), key("1", "3"))
	checkErrors(t, swapped, "(1 2)", api.ErrLimit, "(3 2)", "(1 1)", "(3 1)", "(2 1)")
}

// The two aliases are values of the axis Accept-Encoding only.
func TestParseOfAliases(t *testing.T) {
	for _, name := range []string{"accept-language", "accept-charset", "a"} {
		checkParse(t, fields("(x-gzip)"), []api.Axis{axis(name, "gzip")}, nil, api.ErrLimit)
		checkKeys(t, []api.Axis{axis(name, "gzip", "x-gzip")}, "(x-gzip), (gzip)", key("x-gzip"), key("gzip"))
	}
}

// invalidAxes returns lists of axes that are not valid.
func invalidAxes() [][]api.Axis {
	return [][]api.Axis{
		nil,
		{},
		{axis("a")},
		{axis("A", "1")},
		{axis("", "1")},
		{axis("a b", "1")},
		{axis("a", "1", "1")},
		{axis("a", "")},
		{axis("a", "1"), axis("a", "2")},
		{axis("Accept-Language", "en")},
		{axis("accept-language", "*")},
		{axis("accept-language", "en", "EN")},
		{axis("accept-encoding", "gzip", "x-gzip")},
		{axis("accept", "text/*")},
		{axis("a", numbered(17)...)},
		{axis("a", "1"), axis("b", "1"), axis("c", "1"), axis("d", "1"), axis("e", "1")},
		{axis("accept-language", "en"), axis("accept-encoding")},
	}
}

func TestParseOfAxesThatAreNotValid(t *testing.T) {
	for _, axes := range invalidAxes() {
		for _, value := range []string{"", "(1)", "(en)", "(en gzip)", "(1 1)", "(1 1 1 1 1)", "()", "("} {
			checkParse(t, fields(value), axes, nil, api.ErrRange)
		}
		checkParse(t, nil, axes, nil, api.ErrRange)
		checkParse(t, []api.Field{{Name: "Variants", Value: "a=(1)"}}, axes, nil, api.ErrRange)
	}
}

// A malformed member comes before a key that does not fit, wherever they stand.
func TestParseReturnsTheFirstError(t *testing.T) {
	for _, unfit := range []string{"()", "(en)", "(en br)", "(de gzip)", "(en gzip en)"} {
		for _, malformed := range []string{"x", "(en gzip", "en gzip)", "(en\tgzip)", `("en gzip)`} {
			checkParse(t, fields(unfit+", "+malformed), exampleAxes(), nil, api.ErrSyntax)
			checkParse(t, fields(unfit, malformed), exampleAxes(), nil, api.ErrSyntax)
			checkParse(t, fields(malformed, unfit), exampleAxes(), nil, api.ErrSyntax)
			checkParse(t, []api.Field{{Name: "Variants", Value: malformed}, {Name: "Vary", Value: unfit}}, exampleAxes(), nil, api.ErrState)
		}
	}
}

// Only the first MaxMembers members are looked at, so there are at most MaxKeys keys.
func TestParseOfManyMembers(t *testing.T) {
	axes := []api.Axis{axis("a", numbered(16)...), axis("b", numbered(16)...)}
	var members []string
	var keys [][]string
	for _, first := range numbered(16) {
		for _, second := range numbered(16)[:5] {
			members = append(members, "("+second+" "+first+")")
			keys = append(keys, key(second, first))
		}
	}
	for _, count := range []int{1, 62, 63, 64} {
		checkKeys(t, axes, strings.Join(members[:count], ","), keys[:count]...)
		checkParse(t, fields(members[:count]...), axes, keys[:count], api.OK)
	}
	for _, count := range []int{65, 66, 80} {
		checkKeys(t, axes, strings.Join(members[:count], ","), keys[:64]...)
		checkParse(t, fields(members[:count]...), axes, keys[:64], api.OK)
	}
	for _, rest := range []string{"x", "(", "()", "(v0)", "(v0 w0)"} {
		checkKeys(t, axes, strings.Join(members[:64], ",")+","+rest, keys[:64]...)
		checkParse(t, fields(strings.Join(members[:64], ","), rest), axes, keys[:64], api.OK)
	}
	checkParse(t, fields(strings.Join(members[:63], ","), "x"), axes, nil, api.ErrSyntax)
	checkParse(t, fields(strings.Join(members[:63], ","), ",,()"), axes, nil, api.ErrLimit)
	// Keys that are left out count, too.
	checkKeys(t, axes, strings.Repeat("(v0 v0),", 64)+"(v1 v1)", key("v0", "v0"))
	checkKeys(t, axes, strings.Repeat("(v0 v0),", 63)+"(v1 v1)", key("v0", "v0"), key("v1", "v1"))
}

func TestParseOfEachValueOfLargeAxes(t *testing.T) {
	axes := []api.Axis{axis("accept-language", strings.Fields("a b c d e f g h i j k l m n o p")...), axis("a", numbered(16)...), axis("b", "1"), axis("accept-encoding", numbered(16)...)}
	for i := range 16 {
		want := key(axes[0].Values[i], axes[1].Values[15-i], "1", axes[3].Values[i])
		checkKeys(t, axes, "("+strings.ToUpper(want[0])+" "+want[1]+" 1 "+strings.ToUpper(want[3])+")", want)
	}
}

func TestParseOfLongValues(t *testing.T) {
	const count = 200000
	long, upper := strings.Repeat("a", count), strings.Repeat("A", count)
	axes := []api.Axis{axis("accept-encoding", long, long+"b"), axis("a", "1")}
	checkKeys(t, axes, "("+upper+"B 1), ("+upper+"   1)", key(long+"b", "1"), key(long, "1"))
	checkErrors(t, axes, "("+long+" 1)", api.ErrLimit, "("+upper+"C 1)", "("+upper[1:]+" 1)", "("+strings.Repeat("1 ", count)+")", "(1 "+long+")")
	checkErrors(t, axes, "("+long+" 1)", api.ErrSyntax, strings.Repeat("(", count)+strings.Repeat(")", count), "("+long, long)
}

// checkAsModel expects what the model says of fields with these values.
func checkAsModel(t *testing.T, axes []api.Axis, values ...string) {
	t.Helper()
	want, wantError := expectedParse(fields(values...), axes)
	checkParse(t, fields(values...), axes, want, wantError)
}

func TestParseOfEveryByteAtEachPlace(t *testing.T) {
	for _, test := range []struct {
		axes []api.Axis
		text string
	}{
		{exampleAxes(), "(FR gzip), (en X-gzip)"},
		{exampleAxes(), "( en   identity ),(en gzip)"},
		{exampleAxes(), `("en" "\gzip")`},
		{otherAxes(), `("3 4"), (1) , ( "\"" )`},
		{[]api.Axis{axis("accept", `a/b;c="d,e"`), axis("a", "@", "`", "[", "{")}, `("A/b;c=\"d,e\"" [)`},
	} {
		for i := range len(test.text) + 1 {
			for b := range 256 {
				checkAsModel(t, test.axes, test.text[:i]+single(b)+test.text[i:])
				if i < len(test.text) {
					checkAsModel(t, test.axes, test.text[:i]+single(b)+test.text[i+1:])
				}
			}
			checkAsModel(t, test.axes, test.text[:i])
			checkAsModel(t, test.axes, test.text[i:])
			checkAsModel(t, test.axes, test.text[:i], test.text[i:])
		}
	}
}

func TestParseOfSequencesOfPieces(t *testing.T) {
	one := []api.Axis{axis("a", "b", "b b", "c")}
	two := []api.Axis{axis("accept-encoding", "b", "bb"), axis("a", "c", "b c")}
	sequences := []string{""}
	for range 5 {
		var longer []string
		for _, s := range sequences {
			for _, piece := range []string{"b", "c", "(", ")", " ", `"`, `\`, ","} {
				longer = append(longer, s+piece)
				checkAsModel(t, one, s+piece)
				checkAsModel(t, one, "("+s+piece+")")
				checkAsModel(t, two, "(B c), ("+s+piece+")")
			}
		}
		sequences = longer
	}
}

func TestParseKeepsNoMemory(t *testing.T) {
	l, axes := fields("(en gzip), (FR gzip)"), exampleAxes()
	first, _ := variantkey.Parse(l, axes)
	second, _ := variantkey.Parse(l, axes)
	for i := range first {
		for j := range first[i] {
			first[i][j] = "x"
		}
		_ = append(first[i], "y")
	}
	want := [][]string{key("en", "gzip"), key("fr", "gzip")}
	if !equalKeys(second, want) {
		t.Errorf("a change of one result has changed another one to %s", shortened(second))
	}
	if !equalAxes(axes, exampleAxes()) {
		t.Errorf("a change of a result has changed the axes to %s", shortened(axes))
	}
	for i := range axes {
		for j := range axes[i].Values {
			axes[i].Values[j] = "x"
		}
	}
	_ = append(second[0], "y")
	if !equalKeys(second, want) {
		t.Errorf("a change of the axes or of one key has changed a result to %s", shortened(second))
	}
	checkParse(t, l, exampleAxes(), want, api.OK)
}
