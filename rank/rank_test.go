package rank_test

import (
	"fmt"
	"maps"
	"math"
	"math/rand"
	"slices"
	"strconv"
	"strings"
	"testing"

	"variantproxy/accept"
	"variantproxy/api"
	"variantproxy/rank"
)

var kinds = []int{api.KindAccept, api.KindLanguage, api.KindCharset, api.KindCoding}

// otherKinds are none of the four, also if only some bits of them are looked at.
var otherKinds = []int{
	api.KindOther, -1, -2, -3, -4, 5, 6, 8, 99, math.MaxInt, math.MinInt,
	api.KindAccept + 1<<8, api.KindLanguage + 1<<16, api.KindCharset + 1<<32, api.KindCoding + math.MinInt,
}

// everyKind returns the four kinds and those that are none.
func everyKind() []int {
	return append(slices.Clone(kinds), otherKinds...)
}

// prefs returns the preferences that the value of a field states.
func prefs(t *testing.T, kind int, value string) []api.Pref {
	t.Helper()
	l, ok := accept.Prefs(kind, []api.Field{{Name: accept.Name(kind), Value: value}})
	if !ok {
		t.Fatalf("no field of the kind %d", kind)
	}
	return l
}

// shortened returns the beginning of the text of a list.
func shortened[T any](l []T) string {
	return fmt.Sprintf("%.300q", fmt.Sprint(l[:min(len(l), 100)]))
}

func checkQuality(t *testing.T, kind int, l []api.Pref, present bool, value string, want int) {
	t.Helper()
	before := slices.Clone(l)
	if got := rank.Quality(kind, l, present, value); got != want {
		t.Errorf("Quality(%d, %s, %v, %.80q) = %d, not %d", kind, shortened(l), present, value, got, want)
	}
	if !slices.Equal(l, before) {
		t.Errorf("Quality has changed its argument to %s", shortened(l))
	}
}

func checkRank(t *testing.T, kind int, l []api.Pref, present bool, values []string, want ...string) {
	t.Helper()
	prefsBefore, valuesBefore := slices.Clone(l), slices.Clone(values)
	if got := rank.Rank(kind, l, present, values); !slices.Equal(got, want) {
		t.Errorf("Rank(%d, %s, %v, %s) = %s, not %s", kind, shortened(l), present, shortened(values), shortened(got), shortened(want))
	}
	if !slices.Equal(l, prefsBefore) || !slices.Equal(values, valuesBefore) {
		t.Errorf("Rank has changed its arguments to %s and %s", shortened(l), shortened(values))
	}
}

// judged is a value and its quality.
type judged struct {
	value   string
	quality int
}

// checkField expects these qualities under the field with this value, and that the
// values are ranked accordingly.
func checkField(t *testing.T, kind int, field string, want ...judged) {
	t.Helper()
	l := prefs(t, kind, field)
	var values []string
	for _, v := range want {
		checkQuality(t, kind, l, true, v.value, v.quality)
		checkQuality(t, kind, l, false, v.value, 1000)
		values = append(values, v.value)
	}
	slices.SortStableFunc(want, func(a, b judged) int { return b.quality - a.quality })
	var ranked []string
	for _, v := range want {
		if v.quality > 0 {
			ranked = append(ranked, v.value)
		}
	}
	checkRank(t, kind, l, true, values, ranked...)
	checkRank(t, kind, l, false, values, values...)
}

// Promise 14.1

func TestExamples(t *testing.T) {
	checkField(t, api.KindCoding, "gzip;q=0.5, *;q=0", judged{"br", 0}, judged{"gzip", 500}, judged{"identity", 0})
	checkField(t, api.KindCoding, "gzip", judged{"br", 0}, judged{"gzip", 1000}, judged{"identity", 1})
	checkField(t, api.KindCoding, "identity;q=0, *;q=0", judged{"br", 0}, judged{"gzip", 0}, judged{"identity", 0})
	checkField(t, api.KindAccept, "text/*;q=0.3, text/html;q=0.7", judged{"text/plain", 300}, judged{"text/html", 700})
	checkField(t, api.KindLanguage, "EN, fr;q=0.5", judged{"fr", 500}, judged{"en", 1000})
}

func TestQualityOfMediaTypes(t *testing.T) {
	checkField(t, api.KindAccept, "text/*;q=0.3, text/html;q=0.7, text/html;level=1, text/html;level=2;q=0.4, */*;q=0.5",
		judged{"text/html;level=1", 1000},
		judged{"text/html", 700},
		judged{"text/plain", 300},
		judged{"image/jpeg", 500},
		judged{"text/html;level=2", 400},
		judged{"text/html;level=3", 700},
		judged{"TEXT/HTML;Level=1;a=b", 1000},
		judged{"text/html;level=1;level=2", 1000},
		judged{"text/x*", 300},
	)
	checkField(t, api.KindAccept, "a/b;q=0.9, a/b;c=d;q=0.2, a/b;c=d;e=f;q=0.4, a/b;e=f;c=d;c=d;q=0.1",
		judged{"a/b", 900}, judged{"a/b;c=d", 200}, judged{"a/b;c=D;e=F", 100}, judged{"a/b;e=f", 900}, judged{"b/b", 0})
	checkField(t, api.KindAccept, "text/*;level=1, */*;level=1;q=0.1", judged{"text/html;level=2", 1000}, judged{"image/png", 100})
	checkField(t, api.KindAccept, "image/*", judged{"text/html", 0}, judged{"identity", 0}, judged{"identity/identity", 0}, judged{"image/png", 1000})
}

func TestQualityOfLanguages(t *testing.T) {
	checkField(t, api.KindLanguage, "de;q=0.5, de-CH;q=0.9, *;q=0.1, de-CH-1996;q=0.2",
		judged{"de", 500}, judged{"de-AT", 500}, judged{"DE-ch", 900}, judged{"de-CH-1901", 900}, judged{"de-CH-1996", 200}, judged{"de-CH-1996-x-a", 200}, judged{"den", 100}, judged{"fr", 100})
	checkField(t, api.KindLanguage, "de-CH", judged{"de", 0}, judged{"de-AT", 0}, judged{"de-CH", 1000}, judged{"identity", 0})
	checkField(t, api.KindLanguage, "identity;q=0.4", judged{"identity", 400}, judged{"Identity-x", 400}, judged{"en", 0})
}

func TestQualityOfCharsets(t *testing.T) {
	checkField(t, api.KindCharset, "UTF-8;q=0.25, *;q=0.75, x-gzip;q=0.5",
		judged{"utf-8", 250}, judged{"Utf-8", 250}, judged{"utf-16", 750}, judged{"gzip", 750}, judged{"X-GZIP", 500}, judged{"identity", 750})
	checkField(t, api.KindCharset, "utf-8", judged{"utf-8", 1000}, judged{"identity", 0}, judged{"iso-8859-1", 0})
}

func TestQualityOfCodings(t *testing.T) {
	checkField(t, api.KindCoding, "X-GZIP;q=0.25, *;q=0.75, compress;q=0.5",
		judged{"gzip", 250}, judged{"x-gzip", 250}, judged{"x-Compress", 500}, judged{"br", 750}, judged{"identity", 750})
	checkField(t, api.KindCoding, "IDENTITY;q=0.5, gzip;q=0.002", judged{"identity", 500}, judged{"Identity", 500}, judged{"gzip", 2}, judged{"br", 0})
	checkField(t, api.KindCoding, "gzip;q=0.001", judged{"identity", 1}, judged{"gzip", 1})
}

// A quality 0 in the most specific range excludes, whatever else is said.
func TestQualityOfExcludedValues(t *testing.T) {
	checkField(t, api.KindAccept, "*/*, text/*, text/html, text/html;level=1;q=0", judged{"text/html;level=1", 0}, judged{"text/html", 1000}, judged{"a/b", 1000})
	checkField(t, api.KindAccept, "text/*;q=0, */*", judged{"text/html", 0}, judged{"a/b", 1000})
	checkField(t, api.KindAccept, "text/html, text/*;q=0", judged{"text/html", 1000}, judged{"text/plain", 0})
	checkField(t, api.KindLanguage, "de-CH;q=0, de, *", judged{"de-CH-1996", 0}, judged{"de", 1000}, judged{"fr", 1000})
	checkField(t, api.KindLanguage, "*;q=0, de", judged{"de-CH", 1000}, judged{"fr", 0})
	checkField(t, api.KindCharset, "utf-8;q=0, *", judged{"utf-8", 0}, judged{"utf-16", 1000})
	checkField(t, api.KindCoding, "identity;q=0, *", judged{"identity", 0}, judged{"IDENTITY", 0}, judged{"gzip", 1000})
	checkField(t, api.KindCoding, "identity;q=0", judged{"identity", 0}, judged{"gzip", 0})
	checkField(t, api.KindCoding, "*;q=0", judged{"identity", 0}, judged{"gzip", 0})
	checkField(t, api.KindCoding, "*;q=0, identity", judged{"identity", 1000}, judged{"gzip", 0})
}

// Of several preferences of one specificity, the first one counts, also if it has
// the lesser quality, or excludes.
func TestQualityOfTheFirstOfSeveral(t *testing.T) {
	checkField(t, api.KindCoding, "gzip;q=0.2, x-gzip;q=0.8, gzip;q=0.5", judged{"gzip", 200})
	checkField(t, api.KindCoding, "gzip;q=0, gzip", judged{"gzip", 0})
	checkField(t, api.KindCoding, "gzip, gzip;q=0", judged{"gzip", 1000})
	checkField(t, api.KindCoding, "*;q=0.3, *;q=0.9", judged{"br", 300}, judged{"identity", 300})
	checkField(t, api.KindCharset, "utf-8;q=0.9, UTF-8;q=0.8", judged{"utf-8", 900})
	checkField(t, api.KindLanguage, "de-ch;q=0.2, de;q=0.7, DE;q=0.1, de-CH;q=0.9", judged{"de", 700}, judged{"de-CH", 200})
	checkField(t, api.KindAccept, "a/b;c=d;q=0.2, a/b;e=f;q=0.8", judged{"a/b;e=f;c=d", 200}, judged{"a/b;e=f", 800})
	checkField(t, api.KindAccept, "a/*;q=0.2, a/*;x=y;q=0.8, */*;x=y;q=0.1, */*;q=0.7", judged{"a/b;x=y", 200}, judged{"b/b", 100})
}

func TestQualityWithoutField(t *testing.T) {
	lists := [][]api.Pref{nil, {}, {{Range: "*"}}, {{Range: "*/*", Q: 1}}, {{Range: "gzip", Q: 500}, {Range: "gzip", Q: -500}}, {{}}}
	for _, kind := range everyKind() {
		for _, l := range lists {
			for _, value := range []string{"", "*", "*/*", "text/html", "de", "gzip", "identity", "a b", "\x00\xff"} {
				checkQuality(t, kind, l, false, value, 1000)
			}
		}
	}
}

// The field may state no preference at all.
func TestQualityWithoutPreferences(t *testing.T) {
	for _, kind := range everyKind() {
		for _, l := range [][]api.Pref{nil, {}} {
			for _, value := range []string{"", "*", "*/*", "text/html", "de", "utf-8", "gzip", "br", "identity-x", "x-identity", "identit", "identityy", " identity", "identity ", "identity;q=1", "identity,identity", "\"identity\"", "\u0131dentity", "ident\u0130ty", "identity\x00", "ide\x00ntity", "\xc9DENTITY"} {
				checkQuality(t, kind, l, true, value, 0)
			}
			for _, value := range []string{"identity", "IDENTITY", "Identity", "iDeNtItY", "identitY"} {
				want := 0
				if kind == api.KindCoding {
					want = 1
				}
				checkQuality(t, kind, l, true, value, want)
				checkQuality(t, kind, []api.Pref{{Range: "br", Q: 700}, {Range: "a b", Q: 600}, {Range: "identity;q=1", Q: 500}, {Range: "", Q: 400}, {Range: "*/*x", Q: 300}}, true, value, want)
			}
		}
	}
}

// Each byte of identity that is replaced by another one leaves another value.
func TestQualityOfOneByteChangesOfIdentity(t *testing.T) {
	const identity = "identity"
	for at := range len(identity) {
		for b := range 256 {
			changed := identity[:at] + string([]byte{byte(b)}) + identity[at+1:]
			want := 0
			if byte(b) == identity[at] || byte(b) == identity[at]-'a'+'A' {
				want = 1
			}
			checkQuality(t, api.KindCoding, nil, true, changed, want)
		}
	}
}

// A value that is not well-formed is matched by nothing, not even by a wildcard.
func TestQualityOfMalformedValues(t *testing.T) {
	malformed := map[int][]string{
		api.KindAccept:   {"", "*", "*/*", "text/*", "text", "text/", "/html", "text/html;level", "te xt/html", "text/html, text/html", "\xff/a"},
		api.KindLanguage: {"", "*", "de-", "-de", "d1", "abcdefghi", "de, de", "de ", "\xe9"},
		api.KindCharset:  {"", "*", "utf 8", "utf-8,", "utf/8", "\"utf-8\"", "\xff"},
		api.KindCoding:   {"", "*", "g zip", "gzip,", "g/zip", "\"gzip\"", " identity", "\xff"},
	}
	for kind, values := range malformed {
		for _, value := range values {
			l := []api.Pref{{Range: "*", Q: 1000}, {Range: "*/*", Q: 1000}, {Range: "text/*", Q: 1000}, {Range: value, Q: 1000}}
			checkQuality(t, kind, l, true, value, 0)
			checkQuality(t, kind, l, false, value, 1000)
			checkRank(t, kind, l, true, []string{value, value})
			checkRank(t, kind, l, false, []string{value, value}, value, value)
		}
	}
}

// A range that is not well-formed matches nothing.
func TestQualityWithMalformedRanges(t *testing.T) {
	ranges := []string{"", " ", "*;q=1", "* ", "a b", "a,b", "a;b", "/", "a/", "*/a", "**", "\x00", "\xff", "a/b;c", "a--b", "abcdefghi"}
	for _, kind := range kinds {
		first := modelValues[kind][0]
		var l []api.Pref
		for _, r := range ranges {
			l = append(l, api.Pref{Range: r, Q: 900})
		}
		checkQuality(t, kind, l, true, first, 0)
		checkQuality(t, kind, append(l, api.Pref{Range: first, Q: 400}), true, first, 400)
	}
	checkQuality(t, api.KindCoding, []api.Pref{{Range: "* ", Q: 900}, {Range: "identity;", Q: 800}}, true, "identity", 1)
}

// Nothing matches for other kinds, and none of them has an identity.
func TestQualityOfOtherKinds(t *testing.T) {
	l := []api.Pref{{Range: "*", Q: 1000}, {Range: "*/*", Q: 900}, {Range: "a", Q: 800}, {Range: "identity", Q: 700}, {Range: "a/b", Q: 600}}
	for _, kind := range otherKinds {
		for _, value := range []string{"", "*", "a", "a/b", "identity", "gzip", "de"} {
			checkQuality(t, kind, l, true, value, 0)
		}
		checkRank(t, kind, l, true, []string{"a", "identity", "a/b"})
		checkRank(t, kind, l, false, []string{"a", "identity", "a/b"}, "a", "identity", "a/b")
	}
}

// extremes are numbers that are no qualities, or only just.
var extremes = []int{math.MinInt, -1 << 32, -1000, -2, -1, 0, 1, 2, 999, 1000, 1001, 1 << 31, 1 << 32, math.MaxInt}

// Quality returns what the preference says, whatever number it is.
func TestQualityOfNumbersThatAreNoQualities(t *testing.T) {
	for kind, value := range map[int]string{api.KindAccept: "a/b", api.KindLanguage: "de", api.KindCharset: "utf-8", api.KindCoding: "identity"} {
		for _, q := range extremes {
			checkQuality(t, kind, []api.Pref{{Range: "x", Q: 3}, {Range: value, Q: q}, {Range: value, Q: 4}}, true, value, q)
			wildcard := "*"
			if kind == api.KindAccept {
				wildcard = "*/*"
			}
			checkQuality(t, kind, []api.Pref{{Range: wildcard, Q: q}, {Range: wildcard, Q: 4}}, true, value, q)
			checkQuality(t, kind, []api.Pref{{Range: wildcard, Q: 5}, {Range: value, Q: q}, {Range: wildcard, Q: 4}}, true, value, q)
		}
	}
}

// Promise 14.2

func TestRank(t *testing.T) {
	l := prefs(t, api.KindLanguage, "en;q=0.5, fr, de;q=0.8, it;q=0")
	checkRank(t, api.KindLanguage, l, true, []string{"en", "fr", "de"}, "fr", "de", "en")
	checkRank(t, api.KindLanguage, l, true, []string{"fr", "de", "en"}, "fr", "de", "en")
	checkRank(t, api.KindLanguage, l, true, []string{"de", "it", "en", "es", "fr", "e1"}, "fr", "de", "en")
	checkRank(t, api.KindLanguage, l, true, []string{"it", "es", "*", ""})
	checkRank(t, api.KindLanguage, l, false, []string{"it", "es", "*", "", "en"}, "it", "es", "*", "", "en")
	checkRank(t, api.KindCoding, prefs(t, api.KindCoding, "gzip"), true, []string{"identity", "br", "gzip"}, "gzip", "identity")
	checkRank(t, api.KindCoding, nil, true, []string{"gzip", "Identity", "br", "identity"}, "Identity", "identity")
	checkRank(t, api.KindCharset, nil, true, []string{"utf-8", "identity"})
}

// Values of one quality keep their order, and the same values, too.
func TestRankOfOneQuality(t *testing.T) {
	l := prefs(t, api.KindLanguage, "b;q=0.5, d;q=0.5, *, c;q=0.1")
	checkRank(t, api.KindLanguage, l, true, []string{"d", "b", "c-b", "z", "c-a", "a", "D", "b-a", "B", "c", "z"},
		"z", "a", "z", "d", "b", "D", "b-a", "B", "c-b", "c-a", "c")
	checkRank(t, api.KindLanguage, l, true, []string{"b", "b", "a", "b", "a", "a"}, "a", "a", "a", "b", "b", "b")
	checkRank(t, api.KindCoding, prefs(t, api.KindCoding, "gzip;q=0.001"), true, []string{"identity", "gzip", "IDENTITY", "x-gzip"}, "identity", "gzip", "IDENTITY", "x-gzip")
}

func TestRankOfNoValues(t *testing.T) {
	for _, kind := range everyKind() {
		for _, present := range []bool{false, true} {
			for _, values := range [][]string{nil, {}} {
				checkRank(t, kind, []api.Pref{{Range: "*", Q: 1000}}, present, values)
				checkRank(t, kind, nil, present, values)
			}
		}
	}
}

// Without a field all values are kept in their order, also malformed and equal ones.
func TestRankWithoutField(t *testing.T) {
	values := []string{"identity", "", "b", "*", "a/b", "b", "\xff", "a", "identity"}
	for _, kind := range everyKind() {
		for _, l := range [][]api.Pref{nil, {{Range: "*"}}, {{Range: "a", Q: 1000}, {Range: "*", Q: 1}}, {{Range: "*/*", Q: -1}}} {
			checkRank(t, kind, l, false, values, values...)
		}
	}
}

// Values are compared by their numbers, and only those above 0 are acceptable.
func TestRankOfNumbersThatAreNoQualities(t *testing.T) {
	var l []api.Pref
	var values, want []string
	for i, q := range extremes {
		value := string([]byte{'a' + byte(i)})
		l = append(l, api.Pref{Range: value, Q: q})
		values = append(values, value)
		if q > 0 {
			want = append(want, value)
		}
	}
	slices.Reverse(want)
	random := rand.New(rand.NewSource(14))
	for range 1000 {
		checkRank(t, api.KindCoding, l, true, values, want...)
		random.Shuffle(len(values), func(i, j int) { values[i], values[j] = values[j], values[i] })
	}
}

// Every quality is a level of its own.
func TestRankOfEveryQuality(t *testing.T) {
	var l []api.Pref
	var values, want []string
	for q := range 1001 {
		value := "a-" + strconv.Itoa(q)
		l = append(l, api.Pref{Range: value, Q: q})
		values = append(values, value, value+"-b")
		if q > 0 {
			want = append([]string{value, value + "-b"}, want...)
		}
	}
	checkRank(t, api.KindLanguage, l, true, values, want...)
	// Backwards, the levels come from the best one to the worst.
	slices.Reverse(values)
	for i := 0; i < len(want); i += 2 {
		want[i], want[i+1] = want[i+1], want[i]
	}
	checkRank(t, api.KindLanguage, l, true, values, want...)
}

// Promises 14.1 and 14.2, against the model

// checkModel compares qualities and ranks of all values of the model with it.
func checkModel(t *testing.T, kind int, l []api.Pref, values []string) {
	t.Helper()
	for _, present := range []bool{false, true} {
		for _, value := range values {
			checkQuality(t, kind, l, present, value, expectedQuality(kind, l, present, value))
		}
		checkRank(t, kind, l, present, values, expectedRank(kind, l, present, values)...)
	}
	if t.Failed() {
		t.FailNow()
	}
}

func TestAllShortListsOfPreferences(t *testing.T) {
	for _, kind := range kinds {
		var single []api.Pref
		for _, r := range slices.Sorted(maps.Keys(specificities[kind])) {
			for _, q := range []int{0, 1, 1000} {
				single = append(single, api.Pref{Range: r, Q: q})
			}
		}
		checkModel(t, kind, nil, modelValues[kind])
		for _, a := range single {
			checkModel(t, kind, []api.Pref{a}, modelValues[kind])
			for _, b := range single {
				checkModel(t, kind, []api.Pref{a, b}, modelValues[kind])
				for _, c := range single {
					checkModel(t, kind, []api.Pref{a, b, c}, modelValues[kind])
				}
			}
		}
	}
}

func TestRandomLists(t *testing.T) {
	random := rand.New(rand.NewSource(14))
	for _, kind := range kinds {
		ranges := slices.Sorted(maps.Keys(specificities[kind]))
		for range 5000 {
			var l []api.Pref
			for range random.Intn(10) {
				q := []int{0, 1, 2, 500, 999, 1000, -1, 1001, random.Intn(1001)}[random.Intn(9)]
				l = append(l, api.Pref{Range: ranges[random.Intn(len(ranges))], Q: q})
			}
			var values []string
			for range random.Intn(20) {
				values = append(values, modelValues[kind][random.Intn(len(modelValues[kind]))])
			}
			checkModel(t, kind, l, values)
		}
	}
}

// Rules R4 to R6, and the limits

// There is no limit to the preferences or values.
func TestManyPreferencesAndValues(t *testing.T) {
	const count = 100000
	l := slices.Repeat([]api.Pref{{Range: "br", Q: 900}}, count)
	checkQuality(t, api.KindCoding, append(l, api.Pref{Range: "gzip", Q: 500}), true, "gzip", 500)
	checkQuality(t, api.KindCoding, append(l, api.Pref{Range: "br", Q: 500}), true, "br", 900)
	checkQuality(t, api.KindCoding, l, true, "identity", 1)

	values := slices.Repeat([]string{"de", "fr", "it", "en"}, count)
	var want []string
	for _, value := range []string{"en", "it", "de"} {
		want = append(want, slices.Repeat([]string{value}, count)...)
	}
	checkRank(t, api.KindLanguage, prefs(t, api.KindLanguage, "de;q=0.1, it;q=0.5, en"), true, values, want...)
	checkRank(t, api.KindLanguage, nil, false, values, values...)
	checkRank(t, api.KindLanguage, nil, true, values)
}

func TestLongTexts(t *testing.T) {
	const count = 1000000
	long := strings.Repeat("A", count)
	checkField(t, api.KindAccept, long+"/"+long+";q=0.5", judged{strings.ToLower(long + "/" + long), 500}, judged{long + "/a", 0})
	checkField(t, api.KindCharset, long+";q=0.5, *;q=0.7", judged{strings.ToLower(long), 500}, judged{long + "a", 700})
	tag := "a" + strings.Repeat("-b", count)
	checkField(t, api.KindLanguage, tag+";q=0.5, a;q=0.7", judged{tag + "-c", 500}, judged{tag[:count], 0}, judged{tag[:count-1], 700}, judged{"a-b", 700})
	checkQuality(t, api.KindCoding, nil, true, strings.Repeat("identity", count), 0)
}

// The result of Rank is new memory.
func TestRankSharesNoMemory(t *testing.T) {
	l := prefs(t, api.KindCoding, "gzip, br;q=0.5")
	whole := []string{"br", "identity", "gzip", "br", "behind", "behind"}
	values := whole[:4]
	for _, present := range []bool{false, true} {
		first := rank.Rank(api.KindCoding, l, present, values)
		second := rank.Rank(api.KindCoding, l, present, values)
		want := slices.Clone(second)
		for i := range first {
			first[i] = "changed"
		}
		_ = append(first, "changed")
		_ = append(first[:0], slices.Repeat([]string{"changed"}, cap(first))...)
		if !slices.Equal(second, want) {
			t.Errorf("a result has changed another one to %q", second)
		}
		if !slices.Equal(whole, []string{"br", "identity", "gzip", "br", "behind", "behind"}) {
			t.Errorf("a result has changed the values to %q", whole)
		}
		values[0] = "zstd"
		if !slices.Equal(second, want) {
			t.Errorf("the values have changed a result to %q", second)
		}
		values[0] = "br"
	}
}

// A call does not depend on the calls before.
func TestRankOfRepeatedCalls(t *testing.T) {
	l := prefs(t, api.KindLanguage, "en;q=0.5, fr")
	for range 100 {
		checkRank(t, api.KindLanguage, l, true, []string{"en", "fr", "en-GB"}, "fr", "en", "en-GB")
		checkRank(t, api.KindLanguage, nil, true, []string{"en", "fr"})
		checkRank(t, api.KindLanguage, nil, false, []string{"en", "fr"}, "en", "fr")
	}
}
