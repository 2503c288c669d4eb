package variants_test

import (
	"math/rand"
	"slices"
	"strings"
	"testing"

	"variantproxy/api"
	"variantproxy/variants"
)

// fields returns fields named Variants with these values.
func fields(values ...string) []api.Field {
	var l []api.Field
	for _, value := range values {
		l = append(l, api.Field{Name: "Variants", Value: value})
	}
	return l
}

func checkParse(t *testing.T, l []api.Field, want []api.Axis, wantError api.Errno) {
	t.Helper()
	before := slices.Clone(l)
	if got, errno := variants.Parse(l); !sameAxes(got, want) || errno != wantError {
		t.Errorf("Parse(%s) = %s, %d, not %s, %d", shortened(l), shortened(got), errno, shortened(want), wantError)
	}
	if !slices.Equal(l, before) {
		t.Errorf("Parse has changed its argument to %s", shortened(l))
	}
}

// checkAxes expects the axes of the field with this value.
func checkAxes(t *testing.T, value string, want ...api.Axis) {
	t.Helper()
	checkParse(t, fields(value), want, api.OK)
}

// checkErrors expects this error for each value, also with a good member beside it.
func checkErrors(t *testing.T, want api.Errno, values ...string) {
	t.Helper()
	for _, value := range values {
		checkParse(t, fields(value), nil, want)
		checkParse(t, fields("good=(x)", value), nil, want)
		checkParse(t, fields(value, "good=(x)"), nil, want)
		checkParse(t, fields("good=(x), "+value), nil, want)
	}
}

// Promise 15.3

func TestExample(t *testing.T) {
	checkAxes(t, "Accept-Language=(en fr), Accept-Encoding=(gzip identity)", axis("accept-language", "en", "fr"), axis("accept-encoding", "gzip", "identity"))
	checkAxes(t, "accept-language=(en fr)", axis("accept-language", "en", "fr"))
}

func TestParseReturnsNamesInLowerCase(t *testing.T) {
	checkAxes(t, "DPR=(1 2)", axis("dpr", "1", "2"))
	checkAxes(t, "AZaz!#$%&'*+-.^_`|~09=(A)", axis("azaz!#$%&'*+-.^_`|~09", "A"))
	// Values stay as they are, also where case does not count.
	checkAxes(t, "ACCEPT-LANGUAGE=(EN en-GB), Accept-Encoding=(X-GZIP BR), Accept=(Text/HTML;Level=1)", axis("accept-language", "EN", "en-GB"), axis("accept-encoding", "X-GZIP", "BR"), axis("accept", "Text/HTML;Level=1"))
}

func TestParseOfSpaces(t *testing.T) {
	checkAxes(t, "a=( 1)", axis("a", "1"))
	checkAxes(t, "a=(1 )", axis("a", "1"))
	checkAxes(t, "a=(   1    2  )", axis("a", "1", "2"))
	checkAxes(t, " \ta=(1 2)\t , \t b=(3) ", axis("a", "1", "2"), axis("b", "3"))
	checkErrors(t, api.ErrSyntax, "a =(1)", "a= (1)", "a = (1)", "a\t=(1)", "a=\t(1)", "a=(1\t2)", "a=(\t1)", "a=(1\t)", "a=(1 \t 2)", "a=(\t)", "a=\n(1)", "a\r=(1)", "a=(1)\n", "\va=(1)")
}

func TestParseOfQuotedValues(t *testing.T) {
	checkAxes(t, `a=("1" "2 3" 4)`, axis("a", "1", "2 3", "4"))
	checkAxes(t, `a=("x,y" "(z)" "\"" "\\" "=")`, axis("a", "x,y", "(z)", `"`, `\`, "="))
	checkAxes(t, `Accept=("text/html;a=\"b, c\"" image/png)`, axis("accept", `text/html;a="b, c"`, "image/png"))
	checkAxes(t, "a=(\"\xff\t\xe4\" \xe4)", axis("a", "\xff\t\xe4", "\xe4"))
	checkAxes(t, `Accept-Language=("en" "\f\r")`, axis("accept-language", "en", "fr"))
	checkAxes(t, `a=(\ "\\\"" '1')`, axis("a", `\`, `\"`, "'1'"))
	checkErrors(t, api.ErrSyntax, `a=(")`, `a=("1)`, `a=(1")`, `a=("1"2)`, `a=("1""2")`, `a=(1"2")`, `a=("1\")`, `a=("`, `a=(\")`, `"a"=(1)`, `a="(1)"`, `"a=(1)"`, "a=(\"\x00\")", "a=(\"\\\n\")", "a=(\"\x7f\")")
}

func TestParseOfMalformedMembers(t *testing.T) {
	checkErrors(t, api.ErrSyntax,
		"a", "a=", "a=1", "a=()1", "a(1)", "=(1)", "(1)", "=", "()", "a=(1", "a=1)", "a=(", "a=)", "a=((1))", "a=(1)(2)", "a=(1)=(2)", "a==(1)", "a=(1)b", "a=(1) b=(2)", "a=(1) (2)", "a=(1);b=c", "a=(1 2))", "a=((1)",
		"a=(1,2)", "a=(1, 2)", "a=(,)", "a b=(1)", "a/b=(1)", "a:=(1)", "\xe4=(1)", "a\x00=(1)", "(a)=(1)", "a@b=(1)", "en;fr", "accept-language;en;fr", "a=[1]", "a={1}", "*", "?1", ";", "\\")
}

func TestParseOfEveryByteAtEachPlace(t *testing.T) {
	for _, text := range []string{
		"A=(b C)",
		`accept=(a/b "c/d;e=\"f\\\"") , x=(  ""y )`,
		`accept=(a/b "c/d;e=\"f\"") , x=( "z\ z"  y )`,
		"accept-language=(de-CH en),accept-encoding=(gzip compress)",
		"a=(1),b=(2),c=(3),d=(4)",
	} {
		for i := range len(text) + 1 {
			for b := range 256 {
				checkAsModel(t, text[:i]+single(b)+text[i:])
				if i < len(text) {
					checkAsModel(t, text[:i]+single(b)+text[i+1:])
				}
			}
			checkAsModel(t, text[:i])
			checkAsModel(t, text[i:])
			checkAsModel(t, text[:i], text[i:])
		}
	}
}

// checkAsModel expects what the model says of fields with these values.
func checkAsModel(t *testing.T, values ...string) {
	t.Helper()
	want, wantError := expectedParse(fields(values...))
	checkParse(t, fields(values...), want, wantError)
}

func TestParseOfSequencesOfPieces(t *testing.T) {
	sequences := []string{""}
	for range 5 {
		var longer []string
		for _, s := range sequences {
			for _, piece := range []string{"A=(", "b", ")", " ", `"`, `\`, ",", "="} {
				longer = append(longer, s+piece)
				checkAsModel(t, s+piece)
				checkAsModel(t, "a=("+s+piece+")")
				checkAsModel(t, "a=(b"+s+piece, ")")
			}
		}
		sequences = longer
	}
}

func TestParseOfNoField(t *testing.T) {
	checkParse(t, nil, nil, api.ErrState)
	checkParse(t, []api.Field{}, nil, api.ErrState)
	for _, name := range []string{"Variant", "Variant-Key", "Variantss", "", "Variants ", " Variants", "Vary", "Var\u0131ants", "Variant\u017f", "X-Variants"} {
		checkParse(t, []api.Field{{Name: name, Value: "a=(1)"}}, nil, api.ErrState)
		checkParse(t, []api.Field{{Name: name, Value: "a"}, {Name: name, Value: "a=()"}}, nil, api.ErrState)
		checkParse(t, []api.Field{{Name: name, Value: "a"}, {Name: "Variants", Value: "a=(1)"}, {Name: name, Value: "a=()"}}, []api.Axis{axis("a", "1")}, api.OK)
	}
	checkParse(t, []api.Field{{Name: "a", Value: "Variants"}}, nil, api.ErrState)
}

func TestParseOfTheNameInAnyCase(t *testing.T) {
	for _, name := range []string{"Variants", "variants", "VARIANTS", "vARIANTs"} {
		checkParse(t, []api.Field{{Name: name, Value: "a=(1)"}}, []api.Axis{axis("a", "1")}, api.OK)
	}
	checkParse(t, []api.Field{{Name: "VARIANTS", Value: "a=(1)"}, {Name: "Vary", Value: "x"}, {Name: "variants", Value: "b=(2), c=(3)"}, {Name: "Variants", Value: ""}, {Name: "Variants", Value: "d=(4)"}},
		[]api.Axis{axis("a", "1"), axis("b", "2"), axis("c", "3"), axis("d", "4")}, api.OK)
}

// Fields are there, so it is not the state, but they state no axis, and that many
// are not valid.
func TestParseOfFieldsWithoutMembers(t *testing.T) {
	for _, value := range []string{"", " ", ",", " ,\t, ", strings.Repeat(",", 1000)} {
		checkParse(t, fields(value), nil, api.ErrLimit)
		checkParse(t, fields(value, value), nil, api.ErrLimit)
		checkParse(t, fields(value, "a=(1)", value), []api.Axis{axis("a", "1")}, api.OK)
	}
}

// A quoted string that is not ended in one field does not reach into the next one.
func TestParseOfMembersInSeveralFields(t *testing.T) {
	checkParse(t, fields("a=(1", "2)"), nil, api.ErrSyntax)
	checkParse(t, fields(`a=("1`, `2")`), nil, api.ErrSyntax)
	checkParse(t, fields(`a=("1`, `b=(2)`), nil, api.ErrSyntax)
	checkParse(t, fields("a=(1)", "b=(2)"), []api.Axis{axis("a", "1"), axis("b", "2")}, api.OK)
}

func TestParseOfAxesThatAreNotValid(t *testing.T) {
	checkErrors(t, api.ErrLimit,
		"a=()", "a=( )", `a=("")`, `a=(" 1")`, `a=("1 ")`, "a=(1 1)", "a=(1), A=(2)", "A=(1), b=(2), a=(3)", "a=("+strings.Repeat("1", 101)+")", "a=(\x00)", "a=(\x7f)", "a=(1 \n 2)",
		"accept=(text/*)", "accept=(*/*)", "accept=(en)", "accept=(a/b;q=1)", "accept=(a/b;c=d;C=e)", "accept=(a/b A/B)", "Accept=(a/b;c=d a/b;C=D)",
		"accept-language=(*)", "accept-language=(e1)", "accept-language=(en EN)", "Accept-Language=(en de-)",
		"accept-encoding=(*)", "accept-encoding=(gzip x-gzip)", "Accept-Encoding=(X-Compress compress)", `accept-encoding=("a b")`, "accept-charset=(*)", "Accept-Charset=(utf-8 UTF-8)", "accept-charset=(a/b)",
		"a=("+strings.Join(numbered("", 17), " ")+")", "a=(1),b=(1),c=(1),d=(1),e=(1)", strings.Repeat("a=(1),", 64))
	checkAxes(t, "a=("+strings.Join(numbered("", 16), " ")+")", axis("a", numbered("", 16)...))
	checkAxes(t, "a=("+strings.Repeat("1", 100)+")", axis("a", strings.Repeat("1", 100)))
	checkAxes(t, "a=(1),b=(1),c=(1),d=(1)", axis("a", "1"), axis("b", "1"), axis("c", "1"), axis("d", "1"))
	checkAxes(t, "Accept-Charset=(gzip x-gzip)", axis("accept-charset", "gzip", "x-gzip"))
	checkAxes(t, "a=(gzip x-gzip GZIP *)", axis("a", "gzip", "x-gzip", "GZIP", "*"))
}

// A malformed member comes before axes that are not valid, wherever they stand.
func TestParseReturnsTheFirstError(t *testing.T) {
	for _, invalid := range []string{"a=()", "a=(1), a=(2)", "accept=(x)", "a=(1),b=(1),c=(1),d=(1),e=(1)"} {
		for _, malformed := range []string{"x", "x=(1", "x=y", `x=(")`} {
			checkErrors(t, api.ErrSyntax, invalid+","+malformed)
			checkParse(t, fields(malformed, invalid), nil, api.ErrSyntax)
			checkParse(t, fields(invalid, malformed), nil, api.ErrSyntax)
			checkParse(t, []api.Field{{Name: "Variant", Value: malformed}, {Name: "Vary", Value: invalid}}, nil, api.ErrState)
		}
	}
}

// Only the first MaxMembers members are looked at.
func TestParseOfManyMembers(t *testing.T) {
	for _, rest := range []string{"x", "x=(", "x=()"} {
		checkParse(t, fields(strings.Repeat("a=(1),", 64)+rest), nil, api.ErrLimit)
		checkParse(t, fields(strings.Repeat("a=(1),", 64), rest), nil, api.ErrLimit)
	}
	checkParse(t, fields(strings.Repeat("a=(1),", 63)+"x"), nil, api.ErrSyntax)
	checkParse(t, fields(strings.Repeat("a=(1),", 63), ",,x=("), nil, api.ErrSyntax)
}

func TestParseOfLongValues(t *testing.T) {
	const count = 200000
	checkAxes(t, "a=("+strings.Repeat(" ", count)+"1"+strings.Repeat(" ", count)+")", axis("a", "1"))
	checkAxes(t, strings.Repeat("A", count)+"=(1)", axis(strings.Repeat("a", count), "1"))
	checkAxes(t, "accept-encoding=("+strings.Repeat("A", count)+")", axis("accept-encoding", strings.Repeat("A", count)))
	checkErrors(t, api.ErrLimit, "a=("+strings.Repeat("1 ", count)+")", "a=("+strings.Repeat("1", count)+")")
	checkErrors(t, api.ErrSyntax, "a=("+strings.Repeat("1 ", count), strings.Repeat("a=(", count), strings.Repeat("(", count)+strings.Repeat(")", count), strings.Repeat("=", count))
}

func TestParseKeepsNoMemory(t *testing.T) {
	l := fields("a=(1 2), b=(3)")
	first, _ := variants.Parse(l)
	second, _ := variants.Parse(l)
	for i := range first {
		first[i].Name = "x"
		for j := range first[i].Values {
			first[i].Values[j] = "y"
		}
		_ = append(first[i].Values, "z")
	}
	want := []api.Axis{axis("a", "1", "2"), axis("b", "3")}
	if !sameAxes(second, want) {
		t.Errorf("a change of one result has changed another one to %s", shortened(second))
	}
	second[0].Values = append(second[0].Values, "4")
	if !slices.Equal(second[1].Values, []string{"3"}) {
		t.Errorf("two axes share their values: %s", shortened(second))
	}
	checkParse(t, l, want, api.OK)
}

// Promise 15.4

func checkFormat(t *testing.T, want string, l ...api.Axis) {
	t.Helper()
	before := clone(l)
	if got := variants.Format(l); got != want {
		t.Errorf("Format(%s) = %.200q, not %.200q", shortened(l), got, want)
	}
	if got := expectedFormat(l); got != want {
		t.Errorf("the model is wrong in Format(%s)", shortened(l))
	}
	if !sameAxes(l, before) {
		t.Errorf("Format has changed its argument to %s", shortened(l))
	}
}

func TestFormat(t *testing.T) {
	checkFormat(t, "accept-language=(en fr), accept-encoding=(gzip identity)", axis("accept-language", "en", "fr"), axis("accept-encoding", "gzip", "identity"))
	checkFormat(t, "accept-language=(EN)", axis("accept-language", "EN"))
	checkFormat(t, "a=(1), b=(2), c=(3), d=(4 5 6)", axis("a", "1"), axis("b", "2"), axis("c", "3"), axis("d", "4", "5", "6"))
	checkFormat(t, "!#$%&'*+-.^_`|~09az=(x)", axis("!#$%&'*+-.^_`|~09az", "x"))
}

func TestFormatQuotesWhatIsNotPlain(t *testing.T) {
	checkFormat(t, `a=("b c" d "e,f" "(g)" "\"h\"" i;j=k \ "\\ \\")`, axis("a", "b c", "d", "e,f", "(g)", `"h"`, "i;j=k", `\`, `\ \`))
	checkFormat(t, `accept=(text/html;a=b "text/html;a=\"b c\"" "text/html; a=b")`, axis("accept", "text/html;a=b", `text/html;a="b c"`, "text/html; a=b"))
	checkFormat(t, "a=(\"\xe4\" \"b\tc\" \"\xff\xff\")", axis("a", "\xe4", "b\tc", "\xff\xff"))
	for b := range 256 {
		l := []api.Axis{axis("a", "x"+single(b)+"y", "z")}
		checkFormat(t, expectedFormat(l), l...)
		if valid := b == '\t' || b >= 32 && b != 127; variants.Valid(l) != valid {
			t.Errorf("Valid(%s) is not %v", shortened(l), valid)
		}
	}
}

func TestFormatOfAxesThatAreNotValid(t *testing.T) {
	checkFormat(t, "")
	checkFormat(t, "", axis("a"))
	checkFormat(t, "", axis("A", "1"))
	checkFormat(t, "", axis("a", ""))
	checkFormat(t, "", axis("a", "1", "1"))
	checkFormat(t, "", axis("a", "1"), axis("a", "2"))
	checkFormat(t, "", axis("a", "\x00"))
	checkFormat(t, "", axis("accept-language", "en"), axis("accept", "*/*"))
	checkFormat(t, "", axis("a", numbered("", 17)...))
	checkFormat(t, "", axis("a", "1"), axis("b", "1"), axis("c", "1"), axis("d", "1"), axis("e", "1"))
	if got := variants.Format([]api.Axis{}); got != "" {
		t.Errorf("Format of no axes = %q", got)
	}
}

func TestFormatHasNoLimitOfItsOwn(t *testing.T) {
	long := strings.Repeat("a", 200000)
	checkFormat(t, long+"=(1), accept-encoding=("+long+")", axis(long, "1"), axis("accept-encoding", long))
	sixteen := numbered("", 16)
	text := "=(" + strings.Join(sixteen, " ") + ")"
	checkFormat(t, "a"+text+", b"+text+", c"+text+", d"+text, axis("a", sixteen...), axis("b", sixteen...), axis("c", sixteen...), axis("d", sixteen...))
}

// The chapter's consequence.
func TestParseReadsWhatFormatWrites(t *testing.T) {
	random := rand.New(rand.NewSource(4))
	for range 100000 {
		l := randomAxes(random)
		checkFormat(t, expectedFormat(l), l...)
		if variants.Valid(l) {
			checkAxes(t, variants.Format(l), l...)
		}
	}
	var everyText []string
	for b := range 256 {
		everyText = append(everyText, single(b), "x"+single(b), "a/b;c=\""+single(b)+"\"", "a/b;c=\"\\"+single(b)+"\"", "x"+single(b)+"y", single(b)+"a/b")
	}
	for _, name := range []string{"accept", "accept-language", "accept-charset", "accept-encoding", "a"} {
		for _, value := range everyText {
			if variants.Value(name, value) {
				l := []api.Axis{axis("first", "1"), axis(name, value), axis("last", "2")}
				checkAxes(t, variants.Format(l), l...)
			}
		}
	}
}
