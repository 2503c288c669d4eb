package language_test

import (
	"math/rand"
	"regexp"
	"slices"
	"strings"
	"testing"

	"variantproxy/language"
)

func single(b int) string {
	return string([]byte{byte(b)})
}

// checkJudged expects what Tag and Range say of a text.
func checkJudged(t *testing.T, s string, wantTag, wantRange bool) {
	t.Helper()
	if got := language.Tag(s); got != wantTag {
		t.Errorf("Tag(%.80q) = %v, not %v", s, got, wantTag)
	}
	if got := language.Range(s); got != wantRange {
		t.Errorf("Range(%.80q) = %v, not %v", s, got, wantRange)
	}
}

// checkTags expects that each text is a tag, and so a range.
func checkTags(t *testing.T, texts ...string) {
	t.Helper()
	for _, s := range texts {
		checkJudged(t, s, true, true)
	}
}

// checkMalformed expects that no text is a tag or a range.
func checkMalformed(t *testing.T, texts ...string) {
	t.Helper()
	for _, s := range texts {
		checkJudged(t, s, false, false)
	}
}

// Promise 11.1, Tag and Range

func TestTag(t *testing.T) {
	checkTags(t,
		"de", "de-CH", "en-GB", "EN", "En-gB", "a", "Z", "zh-Hant", "zh-Hant-x-abc", "sr-Latn-RS", "sl-rozaj-1994", "de-1996",
		"x-klingon", "i-klingon", "a-b-c-d", "es-419", "de-CH-1901", "en-a-bbb-x-a-ccc", "hy-Latn-IT-arevela", "a-0", "a-9", "a-0-1-a",
	)
}

func TestRangeOfStar(t *testing.T) {
	checkJudged(t, "*", false, true)
	checkMalformed(t, "**", "*-*", "*-", "-*", "*-CH", "de-*", "de-*-CH", "*de", "de*", "d*e", " *", "* ", "*\x00", "\t*", "*,*", "*;q=1", `"*"`)
}

func TestTagOfMalformedTexts(t *testing.T) {
	checkMalformed(t,
		"", "-", "--", "-de", "de-", "de--CH", "-de-CH", "de-CH-", "--de", "de--", "a-", "-a",
		"1", "1a", "a1", "de1", "1-de", "419", "0-a", "a1-b", "d3-CH", // digits in the first subtag
		"de_CH", "de CH", "de- CH", "de -CH", " de", "de ", "\tde", "de\t", "de,en", "de;q=1", "de.UTF", "de+CH", "de/CH", `"de"`, "de=CH",
		"d\u00e9", "\u00e9", "de-\u00e9", "de\xff", "\x80de", "de-CH\x00", "de\n", "de-CH\r\n", "\u0430", "de\u2010CH", "de\u00adCH", "\u212aa", "a-\u0661", "a-\uff11", "\u017fa",
		"@", "[", "`", "{", "a-@", "a-[", "a-`", "a-{", "a-/", "a-:", // the neighbours of letters and digits
	)
}

func TestTagOfEachLength(t *testing.T) {
	const letters, mixed = "abcdEFGHi", "1bCd5fGh9"
	for length := range 10 {
		first, other := letters[:length], mixed[:length]
		if length == 0 || length > 8 {
			checkMalformed(t, first, first+"-a", first+"-a-b", "a-"+first, "a-"+other, "a-"+other+"-b", "a-b-"+other, "a-"+other+"-"+other, first+"-"+first)
			continue
		}
		checkTags(t, first, first+"-a", first+"-a-b", "a-"+first, "a-"+other, "a-"+other+"-b", "a-b-"+other, "a-"+other+"-"+other, first+"-"+other)
		checkMalformed(t, other, other+"-a", other+"-"+first)
	}
}

func TestTagOfEveryByteAtEachPlace(t *testing.T) {
	for b := range 256 {
		s := single(b)
		isLetter := 'a' <= b && b <= 'z' || 'A' <= b && b <= 'Z'
		isDigit := '0' <= b && b <= '9'
		for _, text := range []string{s + "b-cd", "b" + s + "-cd", s + "bcdefgh", "bcdefgh" + s} {
			checkJudged(t, text, isLetter, isLetter)
		}
		for _, text := range []string{"b-" + s, "b-" + s + "cd", "b-c" + s + "-d", "b-c-" + s, "b-c-d" + s, "b-cdefghi" + s} {
			checkJudged(t, text, isLetter || isDigit, isLetter || isDigit)
		}
		checkJudged(t, s, isLetter, isLetter || s == "*")
		checkJudged(t, "bc"+s+"de", isLetter || s == "-", isLetter || s == "-")
		checkJudged(t, "b-c"+s+"de", isLetter || isDigit || s == "-", isLetter || isDigit || s == "-")
	}
}

func TestTagOfLongTexts(t *testing.T) {
	const count = 200000
	checkTags(t, "a"+strings.Repeat("-b", count), "abcdefgh"+strings.Repeat("-12345678", count))
	checkMalformed(t, strings.Repeat("a", count), "a-"+strings.Repeat("b", count), strings.Repeat("-", count), strings.Repeat("*", count), "a"+strings.Repeat("-b", count)+"-", "a"+strings.Repeat("-b", count)+"-123456789")
}

// The expression sees each byte of a text as the character with its number.
var wholeTag = regexp.MustCompile(`\A[A-Za-z]{1,8}(?:-[A-Za-z0-9]{1,8})*\z`)

func expectedTag(s string) bool {
	characters := make([]rune, len(s))
	for i := range len(s) {
		characters[i] = rune(s[i])
	}
	return wholeTag.MatchString(string(characters))
}

func checkAgainstExpression(t *testing.T, s string) {
	t.Helper()
	checkJudged(t, s, expectedTag(s), expectedTag(s) || s == "*")
}

// sequences returns the texts of up to count of the pieces.
func sequences(count int, pieces ...string) []string {
	all, longest := []string{""}, []string{""}
	for range count {
		var longer []string
		for _, s := range longest {
			for _, piece := range pieces {
				longer = append(longer, s+piece)
			}
		}
		longest = longer
		all = append(all, longer...)
	}
	return all
}

func TestTagOfSequencesOfPieces(t *testing.T) {
	for _, s := range sequences(6, "a", "Z", "7", "-", "*", "bcdefgh") {
		checkAgainstExpression(t, s)
		checkAgainstExpression(t, "ab-"+s)
	}
}

func TestTagOfTextsWithOneByteChanged(t *testing.T) {
	for _, text := range []string{"", "*", "-", "de", "de-CH", "abcdefgh", "abcdefgh-12345678-x", "zh-Hant-x-abc", "sl-rozaj-1994", "*-CH", "1-a"} {
		for i := range len(text) + 1 {
			for b := range 256 {
				checkAgainstExpression(t, text[:i]+single(b)+text[i:])
				if i < len(text) {
					checkAgainstExpression(t, text[:i]+single(b)+text[i+1:])
				}
			}
			checkAgainstExpression(t, text[:i])
			checkAgainstExpression(t, text[i:])
		}
	}
}

// Promise 11.2, Match

func checkMatch(t *testing.T, r, tag string, want int) {
	t.Helper()
	if got := language.Match(r, tag); got != want {
		t.Errorf("Match(%.80q, %.80q) = %d, not %d", r, tag, got, want)
	}
}

func TestMatch(t *testing.T) {
	checkMatch(t, "de", "de-CH", 1)
	checkMatch(t, "de-CH", "de", -1)
	checkMatch(t, "de", "de", 1)
	checkMatch(t, "de-CH", "de-CH", 2)
	checkMatch(t, "de-CH", "de-CH-1996", 2)
	checkMatch(t, "de-CH-1996", "de-CH-1996", 3)
	checkMatch(t, "a-b-c-d-e", "a-b-c-d-e", 5)
	checkMatch(t, "a-b-c-d-e", "a-b-c-d-e-f-g", 5)
	checkMatch(t, "*", "de", 0)
	checkMatch(t, "*", "de-CH-1996", 0)
	checkMatch(t, "x", "x-abc", 1)
	checkMatch(t, "fr", "de", -1)
	checkMatch(t, "de-AT", "de-CH", -1)
	checkMatch(t, "de-DE", "de-Latn-DE", -1) // basic filtering omits no subtag
	checkMatch(t, "CH", "de-CH", -1)
	checkMatch(t, "de-CH-1996", "de-CH", -1)
}

func TestMatchOfParts(t *testing.T) {
	checkMatch(t, "d", "de", -1)
	checkMatch(t, "de", "d", -1)
	checkMatch(t, "de", "deu", -1)
	checkMatch(t, "de", "deu-CH", -1)
	checkMatch(t, "de-C", "de-CH", -1)
	checkMatch(t, "de-CH", "de-C", -1)
	checkMatch(t, "de-CH", "de-CH1", -1)
	checkMatch(t, "de-CH", "de-CH1-a", -1)
	checkMatch(t, "e", "de", -1)
	checkMatch(t, "de", "a-de", -1)
	checkMatch(t, "a-b", "ab", -1)
	checkMatch(t, "ab", "a-b", -1)
	checkMatch(t, "a-b", "a0b", -1)
}

func TestMatchDisregardsCase(t *testing.T) {
	checkMatch(t, "DE", "de-CH", 1)
	checkMatch(t, "de", "DE", 1)
	checkMatch(t, "dE-cH", "De-Ch-1996", 2)
	checkMatch(t, "AZ-az", "az-AZ", 2)
	checkMatch(t, "zh-hant", "ZH-HANT-x", 2)
}

func TestMatchOfWhatIsMalformed(t *testing.T) {
	for _, malformed := range []string{"", "-", "de-", "-de", "de--CH", "1", "a1", "abcdefghi", "de-123456789", "*-CH", "de-*", "**", " de", "de ", "de_CH", "d\u00e9", "de-\x00", "de-CH,fr"} {
		for _, tag := range []string{"de", "de-CH", "de--CH", "a", "de-CH-1996", "de-*", "d\u00e9", malformed, malformed + "-a", "*"} {
			checkMatch(t, malformed, tag, -1)
		}
		for _, r := range []string{"*", "de", "de-CH", "a", "d"} {
			checkMatch(t, r, malformed, -1)
			checkMatch(t, r, malformed+"-CH", -1)
		}
	}
	// A tag is no range, so it is not "*".
	checkMatch(t, "*", "*", -1)
	checkMatch(t, "de", "*", -1)
	checkMatch(t, "de", "de-CH-123456789", -1)
	checkMatch(t, "de-CH-", "de-CH-1996", -1)
	checkMatch(t, "1", "1-a", -1)
}

// The case of ASCII letters is disregarded, and of nothing else.
func TestMatchOfEveryTwoBytes(t *testing.T) {
	for first := range 256 {
		for second := range 256 {
			want := -1
			r, tag := "a-b"+single(first), "a-b"+single(second)
			if expectedTag(r) && expectedTag(tag) && strings.EqualFold(r, tag) {
				want = 1 + strings.Count(r, "-")
			}
			checkMatch(t, r, tag, want)
		}
	}
}

func TestMatchOfLongTexts(t *testing.T) {
	const count = 200000
	long := "a" + strings.Repeat("-b", count)
	checkMatch(t, long, long, count+1)
	checkMatch(t, strings.ToUpper(long), long+"-b", count+1)
	checkMatch(t, long+"-b", long, -1)
	checkMatch(t, long, long+"b", -1)
	checkMatch(t, "*", long, 0)
	checkMatch(t, "a", long, 1)
	checkMatch(t, long, long+"-", -1)
}

// expectedMatch compares the subtags one by one.
func expectedMatch(r, tag string) int {
	if !expectedTag(tag) {
		return -1
	}
	if r == "*" {
		return 0
	}
	if !expectedTag(r) {
		return -1
	}
	wanted := strings.Split(strings.ToLower(r), "-")
	given := strings.Split(strings.ToLower(tag), "-")
	if len(wanted) > len(given) || !slices.Equal(wanted, given[:len(wanted)]) {
		return -1
	}
	return len(wanted)
}

func TestMatchOfAllSmallRangesAndTags(t *testing.T) {
	texts := sequences(4, "a", "B", "b", "-", "1", "*")
	for _, r := range texts {
		for _, tag := range texts {
			if got, want := language.Match(r, tag), expectedMatch(r, tag); got != want {
				t.Fatalf("Match(%q, %q) = %d, not %d", r, tag, got, want)
			}
		}
	}
}

// Promise 11.3, Filter

func checkFilter(t *testing.T, ranges, tags []string, want ...int) {
	t.Helper()
	rangesBefore, tagsBefore := slices.Clone(ranges), slices.Clone(tags)
	if got := language.Filter(ranges, tags); !slices.Equal(got, want) {
		t.Errorf("Filter(%.200q, %.200q) = %v, not %v", ranges, tags, got, want)
	}
	if !slices.Equal(ranges, rangesBefore) || !slices.Equal(tags, tagsBefore) {
		t.Errorf("Filter has changed its arguments to %.200q and %.200q", ranges, tags)
	}
}

func words(s string) []string {
	return strings.Fields(s)
}

func TestFilter(t *testing.T) {
	checkFilter(t, words("de"), words("en de-CH fr de"), 1, 3)
	checkFilter(t, words("fr de"), words("de-CH fr de fr-CH en"), 1, 3, 0, 2)
	checkFilter(t, words("de fr"), words("de-CH fr de fr-CH en"), 0, 2, 1, 3)
	checkFilter(t, words("de-CH de"), words("de de-AT de-CH de-ch-1996"), 2, 3, 0, 1)
	checkFilter(t, words("de de-CH"), words("de de-AT de-CH de-ch-1996"), 0, 1, 2, 3)
	checkFilter(t, words("it"), words("de fr"))
	checkFilter(t, words("DE"), words("dE-ch"), 0)
}

func TestFilterOfStar(t *testing.T) {
	checkFilter(t, words("*"), words("de en fr"), 0, 1, 2)
	checkFilter(t, words("fr *"), words("de en fr-CH"), 2, 0, 1)
	checkFilter(t, words("* fr"), words("de en fr-CH"), 0, 1, 2)
	checkFilter(t, words("* *"), words("b a"), 0, 1)
	checkFilter(t, words("en * de"), words("de en fr it"), 1, 0, 2, 3)
}

// A tag is in the result once, but equal tags are two.
func TestFilterOfEqualRangesAndTags(t *testing.T) {
	checkFilter(t, words("de de DE"), words("de"), 0)
	checkFilter(t, words("de de-CH de *"), words("de-CH"), 0)
	checkFilter(t, words("de"), words("de de DE de"), 0, 1, 2, 3)
	checkFilter(t, words("fr de de fr"), words("de fr de fr"), 1, 3, 0, 2)
}

func TestFilterOfEmptyLists(t *testing.T) {
	checkFilter(t, nil, nil)
	checkFilter(t, []string{}, []string{})
	checkFilter(t, nil, words("de fr"))
	checkFilter(t, []string{}, words("de fr"))
	checkFilter(t, words("de *"), nil)
	checkFilter(t, words("de *"), []string{})
}

func TestFilterOfWhatIsMalformed(t *testing.T) {
	checkFilter(t, []string{"", "de-", "1", "*-*", "de_CH", "de-*"}, []string{"", "de", "de-", "1", "*-*", "de_CH", "de-*", "de-CH"})
	checkFilter(t, []string{"*"}, []string{"", "*", "1", "de", "de-", "fr", "abcdefghi"}, 3, 5)
	checkFilter(t, []string{"", "de", "-"}, []string{"", "de-", "de--CH", "de", "de-CH"}, 3, 4)
}

func TestFilterReturnsNewMemory(t *testing.T) {
	ranges, tags := words("de fr"), words("fr de")
	first := language.Filter(ranges, tags)
	for i := range first {
		first[i] = 7
	}
	_ = append(first, 8)
	checkFilter(t, ranges, tags, 1, 0)
}

func TestFilterOfLongLists(t *testing.T) {
	const count = 200000
	all := make([]int, count)
	for i := range all {
		all[i] = i
	}
	checkFilter(t, words("de"), slices.Repeat(words("de-CH"), count), all...)
	checkFilter(t, words("fr"), slices.Repeat(words("de-CH"), count))
	checkFilter(t, slices.Repeat(words("de"), count), words("de-CH de"), 0, 1)
	checkFilter(t, append(slices.Repeat(words("fr"), count), "de"), words("de-CH fr de"), 1, 0, 2)
}

// expectedFilter follows the words of promise 11.3.
func expectedFilter(ranges, tags []string) []int {
	var result []int
	for _, r := range ranges {
		for i := range tags {
			if expectedMatch(r, tags[i]) != -1 && !slices.Contains(result, i) {
				result = append(result, i)
			}
		}
	}
	return result
}

// pick returns up to count of the texts, in any order and also repeated.
func pick(random *rand.Rand, count int, texts []string) []string {
	var picked []string
	for range random.Intn(count + 1) {
		picked = append(picked, texts[random.Intn(len(texts))])
	}
	return picked
}

func TestFilterOfRandomLists(t *testing.T) {
	random := rand.New(rand.NewSource(113))
	texts := words("* a A a-b A-B a-b-c a-c ab ab-b b B-a b-1 b-1-x - a- 1 a-*")
	for range 50000 {
		ranges, tags := pick(random, 5, texts), pick(random, 7, texts)
		checkFilter(t, ranges, tags, expectedFilter(ranges, tags)...)
	}
}

// Promise 11.4, Lookup

func checkLookup(t *testing.T, r string, tags []string, want int) {
	t.Helper()
	before := slices.Clone(tags)
	if got := language.Lookup(r, tags); got != want {
		t.Errorf("Lookup(%.80q, %.200q) = %d, not %d", r, tags, got, want)
	}
	if !slices.Equal(tags, before) {
		t.Errorf("Lookup has changed its argument to %.200q", tags)
	}
}

func TestLookup(t *testing.T) {
	checkLookup(t, "zh-Hant-x-abc", words("zh zh-Hant"), 1)
	checkLookup(t, "de-CH", words("en de-CH de"), 1)
	checkLookup(t, "de-CH", words("en de de-CH"), 2)
	checkLookup(t, "de-CH", words("en de"), 1)
	checkLookup(t, "de-CH", words("en fr"), -1)
	checkLookup(t, "de", words("de-CH de-AT"), -1) // a lookup makes no range longer
	checkLookup(t, "de-CH-1996", words("CH 1996 de-1996 de"), 3)
	checkLookup(t, "a-bb-cc-dd-ee", words("fr a a-bb"), 2)
	checkLookup(t, "de-CH", words("d deu de-C de-CHE"), -1)
	checkLookup(t, "zh-Hant-CN-x-private1-private2", words("zh zh-Hant zh-Hant-CN"), 2)
	checkLookup(t, "zh-Hant-CN-x-private1-private2", words("zh zh-Hant-CN-x-private1 zh-Hant-CN-x-private1-private1"), 1)
}

func TestLookupReturnsTheFirstOfEqualTags(t *testing.T) {
	checkLookup(t, "de", words("en de de"), 1)
	checkLookup(t, "de", words("DE de"), 0)
	checkLookup(t, "de-CH", words("en DE de fr"), 1)
	checkLookup(t, "de-CH", words("de DE-ch de-CH DE-CH"), 1)
}

func TestLookupDisregardsCase(t *testing.T) {
	checkLookup(t, "DE-ch", words("fr de-CH"), 1)
	checkLookup(t, "ZH-HANT-X-ABC", words("zh zh-hant"), 1)
	checkLookup(t, "zh-hant-x-abc", words("ZH ZH-HANT-X ZH-HANT"), 2)
	checkLookup(t, "az-AZ", words("AZ-az"), 0)
}

// What consists of a single byte goes together with the subtag after it.
func TestLookupOfSingleBytes(t *testing.T) {
	checkLookup(t, "zh-Hant-x-abc", words("zh zh-Hant-x"), 0)
	checkLookup(t, "zh-x-abc", words("zh-x"), -1)
	checkLookup(t, "zh-x-abc", words("zh-x zh"), 1)
	checkLookup(t, "zh-1-abc", words("zh-1 zh"), 1)
	checkLookup(t, "zh-x", words("zh-x"), 0)
	checkLookup(t, "zh-x", words("zh"), 0)
	checkLookup(t, "zh-xy-abc", words("zh zh-xy"), 1)
	checkLookup(t, "de-CH-x", words("de de-CH"), 1)
	// Also the first subtag, so that nothing is left.
	checkLookup(t, "x-abc", words("x"), -1)
	checkLookup(t, "x-abc", words("x x-abc"), 1)
	checkLookup(t, "i-klingon-abc", words("i i-klingon"), 1)
	checkLookup(t, "i-klingon-abc", words("i"), -1)
	checkLookup(t, "x", words("x"), 0)
	checkLookup(t, "x-y", words("x"), -1)
}

// One step removes one single byte and no more.
func TestLookupOfSeveralSingleBytes(t *testing.T) {
	checkLookup(t, "de-a-b-ccc", words("de de-a de-a-b"), 1)
	checkLookup(t, "de-a-b-c-ddd", words("de de-a de-a-b de-a-b-c"), 2)
	checkLookup(t, "de-a-b-c-ddd", words("de de-a de-a-b-c"), 0)
	checkLookup(t, "a-b-c-d", words("a a-b a-b-c"), 1)
	checkLookup(t, "a-b-c-d", words("a-b-c a"), -1)
	checkLookup(t, "a-b-c", words("a"), 0)
	checkLookup(t, "a-b-c", words("a-b"), -1)
	checkLookup(t, "de-a-bb-c-dd", words("de de-a de-a-bb-c"), 0)
	checkLookup(t, "de-a-bb-c-dd", words("de de-a de-a-bb de-a-bb-c"), 2)
}

func TestLookupOfStarAndWhatIsMalformed(t *testing.T) {
	for _, r := range []string{"*", "", "-", "de-", "-de", "de--CH", "1", "a1", "abcdefghi", "de-123456789", "*-CH", "de-*", "de-*-x-abc", "**", " de", "de ", "de_CH", "de-CH-\xff", "de-CH,fr"} {
		checkLookup(t, r, []string{r, "de", "de-CH", "*", "", "a", "fr", strings.TrimSuffix(r, "-"), "1"}, -1)
	}
	// A tag that is none equals no range.
	checkLookup(t, "de-CH", []string{"", "*", "de-", "de--CH", "de_CH", " de-CH", "de\x00", "de-*"}, -1)
	checkLookup(t, "de-CH", []string{"", "*", "de-", "de"}, 3)
	// Case is that of ASCII letters only: these two are letters of other alphabets.
	checkLookup(t, "ks-KS", []string{"\u212as-KS", "k\u017f", "KS"}, 2)
	for b := range 256 {
		want := -1
		if s := single(b); s == "k" || s == "K" {
			want = 0
		}
		checkLookup(t, "ks-CH", []string{single(b) + "s"}, want)
	}
}

func TestLookupOfEmptyLists(t *testing.T) {
	checkLookup(t, "de", nil, -1)
	checkLookup(t, "de-CH", []string{}, -1)
	checkLookup(t, "*", nil, -1)
}

func TestLookupOfLongTexts(t *testing.T) {
	const count = 200000
	long := "aa" + strings.Repeat("-bb", count)
	checkLookup(t, long, words("bb aa"), 1)
	checkLookup(t, long, words("a aaa"), -1)
	checkLookup(t, strings.ToUpper(long), []string{"aa", long + "-bb", long}, 2)
	checkLookup(t, long+"-x-y", []string{"aa", long + "-x", long}, 2)
	checkLookup(t, "x"+strings.Repeat("-y", count), words("x"), 0)
	checkLookup(t, "x"+strings.Repeat("-y", count+1), words("x"), -1)
	many := slices.Repeat(words("de-AT"), count)
	checkLookup(t, "de-CH", append(many, "de"), count)
	checkLookup(t, "de-CH", many, -1)
}

// expectedLookup follows the words of promise 11.4 on a list of subtags.
func expectedLookup(r string, tags []string) int {
	if !expectedTag(r) {
		return -1
	}
	for l := strings.Split(strings.ToLower(r), "-"); len(l) > 0; {
		for i, tag := range tags {
			if strings.ToLower(tag) == strings.Join(l, "-") {
				return i
			}
		}
		l = l[:len(l)-1]
		if len(l) > 0 && len(l[len(l)-1]) == 1 {
			l = l[:len(l)-1]
		}
	}
	return -1
}

// Each beginning of a range is looked up alone, and also with all longer ones.
func TestLookupOfAllSmallRanges(t *testing.T) {
	for _, s := range sequences(6, "-a", "-Bb", "-1", "-c0") {
		r := strings.TrimPrefix(s, "-")
		subtags := strings.Split(r, "-")
		var tags []string
		for end := range len(subtags) + 1 {
			tag := strings.Join(subtags[:end], "-")
			tags = append(tags, strings.ToUpper(tag))
			checkLookup(t, r, []string{tag}, expectedLookup(r, []string{tag}))
			checkLookup(t, r, tags, expectedLookup(r, tags))
		}
	}
}

func TestLookupOfRandomLists(t *testing.T) {
	random := rand.New(rand.NewSource(114))
	texts := words("* a A a-b A-B a-b-c a-b-cc a-bb-cc a-bb ab ab-b ab-b-c ab-b-cc ab-bb AB-x-1 ab-x ab-1-x-yy - a- 1 a-*")
	for range 50000 {
		r, tags := texts[random.Intn(len(texts))], pick(random, 7, texts)
		checkLookup(t, r, tags, expectedLookup(r, tags))
	}
}
