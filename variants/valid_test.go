package variants_test

import (
	"fmt"
	"math/rand"
	"slices"
	"strconv"
	"strings"
	"testing"

	"variantproxy/api"
	"variantproxy/variants"
)

func axis(name string, values ...string) api.Axis {
	return api.Axis{Name: name, Values: values}
}

// numbered returns count different values of every axis but Accept, and those of
// Accept with a type before them.
func numbered(before string, count int) []string {
	var values []string
	for i := range count {
		values = append(values, before+"v-"+strconv.Itoa(i))
	}
	return values
}

// clone returns a copy of the axes that shares no memory with them.
func clone(l []api.Axis) []api.Axis {
	copied := slices.Clone(l)
	for i := range copied {
		copied[i].Values = slices.Clone(copied[i].Values)
	}
	return copied
}

// sameAxes compares axes without Equal.
func sameAxes(a, b []api.Axis) bool {
	return slices.EqualFunc(a, b, func(one, other api.Axis) bool {
		return one.Name == other.Name && slices.Equal(one.Values, other.Values)
	})
}

// shortened returns the beginning of the text of a list.
func shortened[T any](l []T) string {
	return fmt.Sprintf("%.300q", fmt.Sprint(l[:min(len(l), 20)]))
}

// checkValid also expects of Format that it writes valid axes only.
func checkValid(t *testing.T, want bool, l ...api.Axis) {
	t.Helper()
	before := clone(l)
	if variants.Valid(l) != want {
		t.Errorf("Valid(%s) is not %v", shortened(l), want)
	}
	if expectedValid(l) != want {
		t.Errorf("the model is wrong in Valid(%s)", shortened(l))
	}
	if got := variants.Format(l); (got != "") != want {
		t.Errorf("Format(%s) = %.200q", shortened(l), got)
	}
	if !sameAxes(l, before) {
		t.Errorf("Valid or Format has changed its argument to %s", shortened(l))
	}
}

// Promise 15.2, Valid

func TestValid(t *testing.T) {
	checkValid(t, true, axis("accept-language", "en", "fr"), axis("accept-encoding", "gzip", "identity"))
	checkValid(t, true, axis("accept-language", "en"))
	checkValid(t, true, axis("accept", "text/html", "text/html;level=1"), axis("accept-charset", "utf-8"), axis("dpr", "1", "2"))
}

func TestValidByTheNumberOfAxes(t *testing.T) {
	checkValid(t, false)
	if variants.Valid([]api.Axis{}) {
		t.Error("no axes are valid")
	}
	four := []api.Axis{axis("a", "1"), axis("b", "1"), axis("c", "1"), axis("d", "1")}
	for count := 1; count <= 4; count++ {
		checkValid(t, true, four[:count]...)
	}
	checkValid(t, false, append(clone(four), axis("e", "1"))...)
	for _, count := range []int{5, 16, 64, 65, 257, 260, 65537} {
		var many []api.Axis
		for i := range count {
			many = append(many, axis("a"+strconv.Itoa(i), "1"))
		}
		if variants.Valid(many) || variants.Format(many) != "" {
			t.Errorf("%d axes are valid", count)
		}
	}
}

func TestValidByTheNumberOfValues(t *testing.T) {
	for name, before := range map[string]string{"accept": "a/", "accept-language": "", "accept-charset": "", "accept-encoding": "", "dpr": ""} {
		checkValid(t, false, axis(name))
		checkValid(t, false, api.Axis{Name: name, Values: []string{}})
		for count := 1; count <= 16; count++ {
			checkValid(t, true, axis(name, numbered(before, count)...))
			checkValid(t, true, axis("x", "1"), axis(name, numbered(before, count)...), axis("y", "1"))
		}
		for _, count := range []int{17, 18, 32, 257, 272, 65537} {
			many := axis(name, numbered(before, count)...)
			if variants.Valid([]api.Axis{many}) || variants.Valid([]api.Axis{axis("x", "1"), axis("y", "1"), many, axis("z", "1")}) {
				t.Errorf("%d values of %s are valid", count, name)
			}
		}
		checkValid(t, false, axis("x", "1"), axis(name))
		checkValid(t, false, axis(name), axis("x", "1"))
	}
	sixteen := numbered("", 16)
	checkValid(t, true, axis("a", sixteen...), axis("b", sixteen...), axis("c", sixteen...), axis("d", sixteen...))
}

func TestValidByNames(t *testing.T) {
	for _, name := range []string{"a", "accept-languages", "dpr", "!#$%&'*+-.^_`|~09az", "*", "0", strings.Repeat("a", 1000)} {
		checkValid(t, true, axis(name, "v"))
		checkValid(t, true, axis("x", "v"), axis(name, "v"))
	}
	for _, name := range []string{"", " ", "A", "DPR", "Accept-Language", "accept-Language", "aZ", "a b", " a", "a ", "a\t", "a=", "a,b", "(a)", `"a"`, "a/b", "a:", "\x00", "\x7f", "\xe4", "\u00e4", "\xc4", "a\n"} {
		checkValid(t, false, axis(name, "v"))
		checkValid(t, false, axis("x", "v"), axis(name, "v"))
		checkValid(t, false, axis(name, "v"), axis("x", "v"))
	}
	for b := range 256 {
		name := "a" + single(b)
		checkValid(t, tokenText.MatchString(characters(name)) && lowered(name) == name, axis(name, "v"))
	}
}

func TestValidByDifferentNames(t *testing.T) {
	checkValid(t, false, axis("a", "1"), axis("a", "1"))
	checkValid(t, false, axis("a", "1"), axis("a", "2"))
	checkValid(t, false, axis("accept-language", "en"), axis("dpr", "1"), axis("accept-language", "fr"))
	checkValid(t, false, axis("b", "1"), axis("a", "1"), axis("a", "2"))
	checkValid(t, false, axis("b", "1"), axis("c", "1"), axis("a", "1"), axis("b", "2"))
	checkValid(t, true, axis("a", "1"), axis("aa", "1"), axis("a-", "1"), axis("-a", "1"))
}

func TestValidByValues(t *testing.T) {
	checkValid(t, false, axis("accept", "text/html", "text/*"))
	checkValid(t, false, axis("accept", "text/html;q=1"))
	checkValid(t, false, axis("accept", "text/html;a=1;a=1"))
	checkValid(t, false, axis("accept", "en"))
	checkValid(t, false, axis("accept-language", "en", "*"))
	checkValid(t, false, axis("accept-language", "e1", "en"))
	checkValid(t, false, axis("accept-encoding", "*"))
	checkValid(t, false, axis("accept-charset", "utf-8", "*", "utf-16"))
	checkValid(t, false, axis("accept-charset", "a b"))
	checkValid(t, false, axis("dpr", ""))
	checkValid(t, false, axis("dpr", "1", " 2"))
	checkValid(t, false, axis("dpr", strings.Repeat("1", 101)))
	checkValid(t, true, axis("dpr", "*", "a b", strings.Repeat("1", 100)))
	checkValid(t, true, axis("x", "*", "a b"), axis("accept", "a/b"))
	// A value at each place of each axis is judged.
	for i := range 4 {
		for j := range 16 {
			l := []api.Axis{axis("a", numbered("", 16)...), axis("accept-language", numbered("", 16)...), axis("accept-encoding", numbered("", 16)...), axis("accept", numbered("a/", 16)...)}
			l[i].Values[j] = "\x00"
			checkValid(t, false, l...)
			l[i].Values[j] = "" // no axis has the empty value
			checkValid(t, false, l...)
		}
	}
}

func TestValidByDifferentValues(t *testing.T) {
	checkValid(t, false, axis("accept", "text/html", "Text/HTML"))
	checkValid(t, true, axis("accept", "text/html", "text/html;a=b", "text/html; a=b", "text/html;a=\"b\""))
	checkValid(t, false, axis("accept-language", "en", "fr", "EN"))
	checkValid(t, false, axis("accept-charset", "UTF-8", "utf-8"))
	checkValid(t, true, axis("accept-charset", "x-gzip", "gzip", "compress", "x-compress"))
	checkValid(t, false, axis("accept-encoding", "gzip", "x-gzip"))
	checkValid(t, false, axis("accept-encoding", "br", "X-COMPRESS", "identity", "Compress"))
	checkValid(t, true, axis("dpr", "a", "A", "x-gzip", "gzip"))
	checkValid(t, false, axis("dpr", "1", "1"))
	checkValid(t, false, axis("dpr", "1", "2", "1"))
	// Values of different axes are not compared.
	checkValid(t, true, axis("a", "1"), axis("b", "1"), axis("accept-language", "en"), axis("accept-charset", "en"))
	for i := range 16 {
		for j := range i {
			values := numbered("", 16)
			values[i] = strings.ToUpper(values[j])
			checkValid(t, false, axis("accept-language", values...))
			checkValid(t, true, axis("dpr", values...))
			values[i] = values[j]
			checkValid(t, false, axis("dpr", values...))
			checkValid(t, false, axis("x", "1"), axis("dpr", values...), axis("y", "1"))
		}
	}
}

func TestValidOfLongLists(t *testing.T) {
	long := slices.Repeat([]string{"text/html"}, 1000000)
	checkValid(t, false, slices.Repeat([]api.Axis{axis("a", "1")}, 1000000)...)
	if variants.Valid([]api.Axis{axis("accept", long...)}) {
		t.Error("a million values are valid")
	}
	checkValid(t, true, axis("accept", "a/"+strings.Repeat("b", 1000000), "a/"+strings.Repeat("c", 1000000)))
	checkValid(t, false, axis("accept", "a/"+strings.Repeat("b", 1000000), "a/"+strings.Repeat("B", 1000000)))
}

// randomAxes returns axes of which a part is valid.
func randomAxes(random *rand.Rand) []api.Axis {
	names := []string{"accept", "accept-language", "accept-charset", "accept-encoding", "dpr", "x", "X", "Accept", ""}
	values := []string{"en", "EN", "en-GB", "gzip", "x-gzip", "X-GZIP", "br", "text/html", "text/plain;a=\"b c\"", "a/b;C=d", "a/b;c=D", "*", "1", "a b", `\`, `a"b`, "\xe4", "", "a,b", "(a)"}
	var l []api.Axis
	for range random.Intn(6) {
		one := axis(names[random.Intn(len(names))])
		for range random.Intn(4) {
			one.Values = append(one.Values, values[random.Intn(len(values))])
		}
		l = append(l, one)
	}
	return l
}

func TestValidOfRandomAxes(t *testing.T) {
	random := rand.New(rand.NewSource(15))
	valid := 0
	for range 200000 {
		l := randomAxes(random)
		checkValid(t, expectedValid(l), l...)
		if variants.Valid(l) {
			valid++
		}
	}
	if valid < 1000 {
		t.Errorf("only %d of the random axes are valid", valid)
	}
}

// Promise 15.2, Equal

func checkEqual(t *testing.T, want bool, a, b []api.Axis) {
	t.Helper()
	aBefore, bBefore := clone(a), clone(b)
	if variants.Equal(a, b) != want {
		t.Errorf("Equal(%s, %s) is not %v", shortened(a), shortened(b), want)
	}
	if variants.Equal(b, a) != want {
		t.Errorf("Equal(%s, %s) is not %v", shortened(b), shortened(a), want)
	}
	if !sameAxes(a, aBefore) || !sameAxes(b, bBefore) {
		t.Errorf("Equal has changed its arguments to %s and %s", shortened(a), shortened(b))
	}
}

func TestEqual(t *testing.T) {
	lists := [][]api.Axis{
		nil,
		{axis("a")},
		{axis("A")},
		{axis("a", "")},
		{axis("a", "1")},
		{axis("b", "1")},
		{axis("", "1")},
		{axis("a", "2")},
		{axis("a", "1", "2")},
		{axis("a", "2", "1")},
		{axis("a", "1", "1")},
		{axis("a", "12")},
		{axis("a", "1"), axis("b", "1")},
		{axis("b", "1"), axis("a", "1")},
		{axis("a", "1"), axis("b", "2")},
		{axis("a", "1"), axis("b", "1"), axis("c", "1")},
		{axis("a", "1"), axis("a", "1")},
		{axis("accept-language", "en")},
		{axis("accept-language", "EN")},
		{axis("Accept-Language", "en")},
		{axis("accept-encoding", "gzip")},
		{axis("accept-encoding", "x-gzip")},
		{axis("accept-encoding", "GZIP")},
		{axis("a", "k")},
		{axis("a", "\u212a")},
		{axis("a", "\xe4")},
		{axis("a", "\xe5")},
		{axis("a\x00", "1")},
	}
	for i, a := range lists {
		for j, b := range lists {
			checkEqual(t, i == j, a, clone(b))
		}
	}
}

// A nil slice and an empty one are equivalent.
func TestEqualOfEmptyLists(t *testing.T) {
	checkEqual(t, true, nil, []api.Axis{})
	checkEqual(t, true, []api.Axis{{Name: "a", Values: nil}}, []api.Axis{{Name: "a", Values: []string{}}})
	checkEqual(t, false, nil, []api.Axis{{}})
	checkEqual(t, false, []api.Axis{{}}, []api.Axis{{Values: []string{""}}})
}

func TestEqualOfLongLists(t *testing.T) {
	long := slices.Repeat([]api.Axis{axis("a", numbered("", 20)...)}, 10000)
	checkEqual(t, true, long, clone(long))
	checkEqual(t, false, long, long[1:])
	changed := clone(long)
	changed[9999].Values[19] = "V-19"
	checkEqual(t, false, long, changed)
	changed = clone(long)
	changed[9999].Name = "A"
	checkEqual(t, false, long, changed)
}
