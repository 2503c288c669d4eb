package variantkey_test

import (
	"math/rand"
	"slices"
	"strings"
	"testing"

	"variantproxy/api"
	"variantproxy/variantkey"
	"variantproxy/variants"
)

func checkFormat(t *testing.T, want string, keys ...[]string) {
	t.Helper()
	before := cloneKeys(keys)
	if got := variantkey.Format(keys); got != want {
		t.Errorf("Format(%s) = %.200q, not %.200q", shortened(keys), got, want)
	}
	if got := expectedFormat(keys); got != want {
		t.Errorf("the model is wrong in Format(%s)", shortened(keys))
	}
	if !equalKeys(keys, before) {
		t.Errorf("Format has changed its argument to %s", shortened(keys))
	}
}

// Promise 16.2, Format

func TestFormat(t *testing.T) {
	checkFormat(t, "(fr gzip), (en gzip)", key("fr", "gzip"), key("en", "gzip"))
	checkFormat(t, "(en)", key("en"))
	checkFormat(t, "(EN X-GZIP)", key("EN", "X-GZIP"))
	checkFormat(t, "(a), (b), (c), (d)", key("a"), key("b"), key("c"), key("d"))
	checkFormat(t, "(a b c d e)", key("a", "b", "c", "d", "e"))
}

// Neither the keys nor their number is judged.
func TestFormatJudgesNothing(t *testing.T) {
	checkFormat(t, "")
	if got := variantkey.Format([][]string{}); got != "" {
		t.Errorf("Format of no keys = %q", got)
	}
	checkFormat(t, "()", nil)
	checkFormat(t, "()", key())
	checkFormat(t, "(), (), (a)", nil, []string{}, key("a"))
	checkFormat(t, "(a), (a), (a b)", key("a"), key("a"), key("a", "b"))
	checkFormat(t, `(""), ("" "")`, key(""), key("", ""))
	checkFormat(t, "(\"\x00\" \"\n\")", key("\x00", "\n"))
	checkFormat(t, "(*/* *)", key("*/*", "*"))
}

func TestFormatQuotesWhatIsNotPlain(t *testing.T) {
	checkFormat(t, `(a "b c"), ("d,e" "(f)"), ("\"g\"" h;i=j), (\ "\\ \\"), ("k ")`, key("a", "b c"), key("d,e", "(f)"), key(`"g"`, "h;i=j"), key(`\`, `\ \`), key("k "))
	checkFormat(t, `("text/html;a=\"b c\"" "text/html; a=b" text/html;a=b)`, key(`text/html;a="b c"`, "text/html; a=b", "text/html;a=b"))
	for b := range 256 {
		s := single(b)
		switch {
		case b == '"':
			checkFormat(t, `("\"" "a\""), ("\"a" "a\"b")`, key(s, "a"+s), key(s+"a", "a"+s+"b"))
		case b < 33 || b > 126 || b == '(' || b == ')' || b == ',':
			q := `"`
			checkFormat(t, "("+q+s+q+" "+q+"a"+s+q+"), ("+q+s+"a"+q+" "+q+"a"+s+"b"+q+")", key(s, "a"+s), key(s+"a", "a"+s+"b"))
		default: // also the backslash, which is escaped in quoted strings only
			checkFormat(t, "("+s+" a"+s+"), ("+s+"a a"+s+"b)", key(s, "a"+s), key(s+"a", "a"+s+"b"))
		}
	}
}

func TestFormatHasNoLimit(t *testing.T) {
	const count = 100000
	checkFormat(t, "("+strings.Repeat("a ", 1000)+"b)", append(slices.Repeat(key("a"), 1000), "b"))
	checkFormat(t, "("+strings.Repeat("a", count)+")", key(strings.Repeat("a", count)))
	if got := variantkey.Format(slices.Repeat([][]string{key("a", "b c")}, count)); got != strings.Repeat(`(a "b c"), `, count)[:count*11-2] {
		t.Errorf("Format of many keys = %.200q", got)
	}
}

// randomKeys returns valid axes and different keys that have their values.
func randomKeys(random *rand.Rand) ([]api.Axis, [][]string) {
	texts := map[string][]string{
		"accept":          {"a/b", `A/c;d="e f"`, "a/b;c=d", "a/b; c=d", `a/b;c="(,)\\\""`, " a/d\t"},
		"accept-language": {"en", "FR", "de-CH", "x-gzip"},
		"accept-charset":  {"utf-8", "GZIP", "x-gzip", "a"},
		"accept-encoding": {"X-GZIP", "br", "compress", "identity"},
		"dpr":             {"1", "a b", "A,b", `"`, `\`, "(", "\xff", "a\tb", ")", "a;b"},
	}
	names := []string{"accept", "accept-language", "accept-charset", "accept-encoding", "dpr"}
	random.Shuffle(len(names), func(i, j int) { names[i], names[j] = names[j], names[i] })
	var axes []api.Axis
	for _, name := range names[:1+random.Intn(4)] {
		values := slices.Clone(texts[name])
		random.Shuffle(len(values), func(i, j int) { values[i], values[j] = values[j], values[i] })
		axes = append(axes, axis(name, values[:1+random.Intn(len(values))]...))
	}
	var keys [][]string
	for range 1 + random.Intn(5) {
		var values []string
		for _, a := range axes {
			values = append(values, a.Values[random.Intn(len(a.Values))])
		}
		if !slices.ContainsFunc(keys, func(earlier []string) bool { return slices.Equal(earlier, values) }) {
			keys = append(keys, values)
		}
	}
	return axes, keys
}

func TestParseReadsWhatFormatWrites(t *testing.T) {
	random := rand.New(rand.NewSource(16))
	for range 50000 {
		axes, keys := randomKeys(random)
		if !variants.Valid(axes) {
			t.Fatalf("the axes %s are not valid", shortened(axes))
		}
		checkFormat(t, expectedFormat(keys), keys...)
		checkKeys(t, axes, variantkey.Format(keys), keys...)
		checkSame(t, true, axes, keys[0], keys[0])
		checkSame(t, len(keys) == 1, axes, keys[0], keys[len(keys)-1])
	}
}

// Promise 16.2, Same

// checkSame also compares the keys the other way round.
func checkSame(t *testing.T, want bool, axes []api.Axis, a, b []string) {
	t.Helper()
	axesBefore, aBefore, bBefore := cloneAxes(axes), slices.Clone(a), slices.Clone(b)
	if variantkey.Same(axes, a, b) != want || variantkey.Same(axes, b, a) != want {
		t.Errorf("Same(%s, %s, %s) is not %v", shortened(axes), shortened(a), shortened(b), want)
	}
	if expectedSame(axes, a, b) != want {
		t.Errorf("the model is wrong in Same(%s, %s, %s)", shortened(axes), shortened(a), shortened(b))
	}
	if !equalAxes(axes, axesBefore) || !slices.Equal(a, aBefore) || !slices.Equal(b, bBefore) {
		t.Errorf("Same has changed its arguments to %s, %s, %s", shortened(axes), shortened(a), shortened(b))
	}
}

func TestSame(t *testing.T) {
	checkSame(t, true, exampleAxes(), key("en", "gzip"), key("en", "gzip"))
	checkSame(t, true, exampleAxes(), key("en", "gzip"), key("EN", "X-Gzip"))
	checkSame(t, false, exampleAxes(), key("en", "gzip"), key("fr", "gzip"))
	checkSame(t, false, exampleAxes(), key("en", "gzip"), key("en", "identity"))
	checkSame(t, false, exampleAxes(), key("en", "gzip"), key("fr", "identity"))
	checkSame(t, false, exampleAxes(), key("en", "gzip"), key("gzip", "en"))
}

func TestSameOfEachKindOfAxis(t *testing.T) {
	for name, pairs := range map[string]struct{ same, different [][2]string }{
		"accept":          {[][2]string{{"A/B;c=D", "a/b;C=d"}}, [][2]string{{"a/b;c=d", "a/b; c=d"}, {"a/b", "a/c"}, {"x-gzip", "gzip"}}},
		"accept-language": {[][2]string{{"EN-gb", "en-GB"}}, [][2]string{{"en", "en-GB"}, {"x-gzip", "gzip"}}},
		"accept-charset":  {[][2]string{{"UTF-8", "utf-8"}, {"X-GZIP", "x-gzip"}}, [][2]string{{"utf-8", "utf8"}, {"x-gzip", "gzip"}}},
		"accept-encoding": {[][2]string{{"gzip", "X-GZIP"}, {"compress", "x-Compress"}, {"BR", "br"}}, [][2]string{{"gzip", "br"}, {"x-br", "br"}}},
		"dpr":             {[][2]string{{"a", "a"}}, [][2]string{{"a", "A"}, {"x-gzip", "gzip"}, {"1", "1.0"}, {"a", " a"}, {"\xe4", "\xc4"}}},
	} {
		for _, want := range []bool{true, false} {
			list := pairs.different
			if want {
				list = pairs.same
			}
			for _, pair := range list {
				// The case of the name does not count.
				for _, spelling := range []string{name, strings.ToUpper(name)} {
					checkSame(t, want, []api.Axis{axis(spelling, "v")}, pair[:1], pair[1:])
					checkSame(t, want, []api.Axis{axis("a"), axis(spelling), axis("b")}, key("1", pair[0], "2"), key("1", pair[1], "2"))
					checkSame(t, false, []api.Axis{axis("a"), axis(spelling), axis("b")}, key("1", pair[0], "2"), key("1", pair[1], "3"))
					checkSame(t, false, []api.Axis{axis("a"), axis(spelling), axis("b")}, key("1", pair[0], "2"), key("2", pair[1], "2"))
				}
			}
		}
	}
}

func TestSameByTheNumberOfValues(t *testing.T) {
	for axisCount := range 6 {
		axes := slices.Repeat([]api.Axis{axis("a", "1")}, axisCount)
		for first := range 7 {
			for second := range 7 {
				checkSame(t, first == axisCount && second == axisCount, axes, slices.Repeat(key("1"), first), slices.Repeat(key("1"), second))
			}
		}
	}
	checkSame(t, true, nil, nil, nil)
	checkSame(t, true, []api.Axis{}, []string{}, nil)
	checkSame(t, false, exampleAxes(), nil, nil)
	checkSame(t, false, exampleAxes(), key("en"), key("en"))
	checkSame(t, false, exampleAxes(), key("en", "gzip", "a"), key("en", "gzip", "a"))
	checkSame(t, false, exampleAxes(), key("en", "gzip"), key("en", "gzip", ""))
	checkSame(t, false, nil, key(""), key(""))
}

// Same asks neither whether the axes are valid nor whether they have the values.
func TestSameJudgesNothing(t *testing.T) {
	checkSame(t, true, exampleAxes(), key("de", "br"), key("DE", "BR"))
	checkSame(t, true, exampleAxes(), key("", "*"), key("", "*"))
	checkSame(t, true, exampleAxes(), key("a b", "\x00"), key("A B", "\x00"))
	checkSame(t, false, exampleAxes(), key("", "gzip"), key("en", "gzip"))
	checkSame(t, false, exampleAxes(), key("*", "gzip"), key("en", "gzip"))
	for _, axes := range invalidAxes() {
		values := slices.Repeat(key("1"), len(axes))
		checkSame(t, true, axes, values, slices.Clone(values))
		for i := range axes {
			other := slices.Clone(values)
			other[i] = "2"
			checkSame(t, false, axes, values, other)
		}
	}
	many := slices.Repeat([]api.Axis{axis("Accept-Encoding")}, 1000)
	checkSame(t, true, many, slices.Repeat(key("gzip"), 1000), slices.Repeat(key("X-GZIP"), 1000))
	checkSame(t, false, many, slices.Repeat(key("gzip"), 1000), append(slices.Repeat(key("gzip"), 999), "br"))
}

func TestSameOfEveryByte(t *testing.T) {
	for _, name := range []string{"accept", "accept-language", "Accept-Charset", "accept-encoding", "dpr"} {
		axes := []api.Axis{axis("a"), axis(name)}
		for a := range 256 {
			for b := range 256 {
				first, second := key("1", single(a)+"-gzip"), key("1", single(b)+"-gzip")
				checkSame(t, expectedSame(axes, first, second), axes, first, second)
			}
		}
	}
}

func TestSameOfLongValues(t *testing.T) {
	long, upper := strings.Repeat("a", 200000), strings.Repeat("A", 200000)
	checkSame(t, true, exampleAxes(), key(long, upper), key(upper, long))
	checkSame(t, false, exampleAxes(), key(long, upper), key(upper, long+"a"))
	checkSame(t, false, exampleAxes(), key(long+"a", upper), key(upper+"b", long))
}
