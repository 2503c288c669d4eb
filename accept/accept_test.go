package accept_test

import (
	"fmt"
	"math"
	"slices"
	"strings"
	"testing"

	"variantproxy/accept"
	"variantproxy/api"
)

// fieldNames holds the name of the field of each of the four kinds.
var fieldNames = map[int]string{
	api.KindAccept:   "Accept",
	api.KindLanguage: "Accept-Language",
	api.KindCharset:  "Accept-Charset",
	api.KindCoding:   "Accept-Encoding",
}

var kinds = []int{api.KindAccept, api.KindLanguage, api.KindCharset, api.KindCoding}

// plainKinds are those whose ranges have no parameters.
var plainKinds = []int{api.KindLanguage, api.KindCharset, api.KindCoding}

// tokenKinds are those whose ranges are tokens.
var tokenKinds = []int{api.KindCharset, api.KindCoding}

// otherKinds are none of the four, also if only some bits of them are looked at.
var otherKinds = []int{
	api.KindOther, -1, -2, -3, -4, 5, 6, 8, 99, math.MaxInt, math.MinInt,
	api.KindAccept + 1<<8, api.KindLanguage + 1<<16, api.KindCharset + 1<<32, api.KindCoding + math.MinInt,
}

func single(b int) string {
	return string([]byte{byte(b)})
}

// shortened returns the beginning of the text of a list.
func shortened[T any](l []T) string {
	return fmt.Sprintf("%.300q", fmt.Sprint(l[:min(len(l), 100)]))
}

// sequences returns all texts of up to count of the pieces.
func sequences(count int, pieces ...string) []string {
	all, longest := []string{""}, []string{""}
	for range count {
		var longer []string
		for _, s := range longest {
			for _, piece := range pieces {
				longer = append(longer, s+piece)
			}
		}
		all, longest = append(all, longer...), longer
	}
	return all
}

// changes returns a text with each byte replaced, inserted and removed.
func changes(s string) []string {
	var changed []string
	for at := range len(s) + 1 {
		for b := range 256 {
			changed = append(changed, s[:at]+single(b)+s[at:])
			if at < len(s) {
				changed = append(changed, s[:at]+single(b)+s[at+1:])
			}
		}
		if at < len(s) {
			changed = append(changed, s[:at]+s[at+1:])
		}
	}
	return changed
}

// Promise 13.1

func checkKind(t *testing.T, name string, want int) {
	t.Helper()
	if got := accept.Kind(name); got != want {
		t.Errorf("Kind(%.80q) = %d, not %d", name, got, want)
	}
}

func TestKind(t *testing.T) {
	for name, want := range map[string]int{
		"Accept":          1,
		"Accept-Language": 2,
		"Accept-Charset":  3,
		"Accept-Encoding": 4,
		"accept":          1,
		"accept-language": 2,
		"accept-charset":  3,
		"accept-encoding": 4,
		"ACCEPT":          1,
		"ACCEPT-LANGUAGE": 2,
		"ACCEPT-CHARSET":  3,
		"ACCEPT-ENCODING": 4,
		"aCCEPT":          1,
		"accept-LANGUAGE": 2,
		"Accept-charseT":  3,
		"aCcEpT-eNcOdInG": 4,
	} {
		checkKind(t, name, want)
	}
}

func TestKindOfOtherNames(t *testing.T) {
	for _, name := range []string{
		"", " ", "-", "*", "A", "Host", "Vary", "TE", "Cookie", "User-Agent", "Language", "Charset", "Encoding", "Content-Language", "Content-Encoding", "Content-Type", "Transfer-Encoding",
		"Accept-", "-Accept", "Accept-Ranges", "Accept-Patch", "Accept-Post", "Accept-Features", "Accept-CH", "Accept-Coding", "Accept-Languages", "Accept-Lang", "Accept-Charsets", "Accept-Encodings",
		"AcceptLanguage", "Accept_Language", "Accept--Language", "Accept-Language-", "Accept Language", "X-Accept", "X-Accept-Encoding", "Accept-Accept", "AcceptAccept", "Accept,Accept-Language",
		" Accept", "Accept ", "\tAccept", "Accept\t", "Accept:", "Accept\r\n", "Accept\x00", "\x00Accept", "\"Accept\"",
		"Accept-Char\u017fet", "Accept\u2010Language", "\u0410ccept", "Accept\xad", "Accept\xff", "1", "2", "KindAccept",
		strings.Repeat("Accept", 100000), "Accept" + strings.Repeat("\x00", 100000),
	} {
		checkKind(t, name, api.KindOther)
	}
}

func TestKindOfOneByteChanges(t *testing.T) {
	for _, name := range fieldNames {
		for _, changed := range changes(name) {
			want := api.KindOther
			for kind, other := range fieldNames {
				if strings.EqualFold(changed, other) && len(changed) == len(other) {
					want = kind
				}
			}
			checkKind(t, changed, want)
		}
	}
}

func checkName(t *testing.T, kind int, want string) {
	t.Helper()
	if got := accept.Name(kind); got != want {
		t.Errorf("Name(%d) = %q, not %q", kind, got, want)
	}
}

func TestName(t *testing.T) {
	checkName(t, 1, "Accept")
	checkName(t, 2, "Accept-Language")
	checkName(t, 3, "Accept-Charset")
	checkName(t, 4, "Accept-Encoding")
	for kind, name := range fieldNames {
		checkName(t, kind, name)
		checkKind(t, accept.Name(kind), kind)
	}
}

func TestNameOfOtherKinds(t *testing.T) {
	for _, kind := range otherKinds {
		checkName(t, kind, "")
	}
	for kind := 5; kind < 1000; kind++ {
		checkName(t, kind, "")
		checkName(t, -kind, "")
	}
}

// Promise 13.3, Match

func checkMatch(t *testing.T, kind int, r, value string, want int) {
	t.Helper()
	if got := accept.Match(kind, r, value); got != want {
		t.Errorf("Match(%d, %.80q, %.80q) = %d, not %d", kind, r, value, got, want)
	}
}

// matchCase is a range, a value and the specificity of the match.
type matchCase struct {
	r, value string
	want     int
}

func checkMatches(t *testing.T, kind int, cases ...matchCase) {
	t.Helper()
	for _, c := range cases {
		checkMatch(t, kind, c.r, c.value, c.want)
	}
}

func TestMatchOfMediaTypes(t *testing.T) {
	checkMatches(t, api.KindAccept,
		matchCase{"*/*", "text/html", 0},
		matchCase{"*/*", "text/html;level=1", 0},
		matchCase{"*/*;level=2", "text/html;level=1", 0},
		matchCase{"text/*", "text/html", 1},
		matchCase{"text/*", "text/html;level=1", 1},
		matchCase{"text/*;level=2", "text/html;level=1", 1},
		matchCase{"image/*", "text/html", -1},
		matchCase{"text/html", "text/html", 2},
		matchCase{"text/html", "text/html;level=1", 2},
		matchCase{"text/html", "text/plain", -1},
		matchCase{"text/html", "image/html", -1},
		matchCase{"text/html;level=1", "text/html;level=1", 3},
		matchCase{"text/html;level=1", "text/html;level=2", -1},
		matchCase{"text/html;level=1", "text/html", -1},
		matchCase{"a/b;c=d;e=f", "a/b;e=f;g=h;c=d", 4},
		matchCase{"a/b;c=d;c=d;c=d", "a/b;c=d", 5},
		matchCase{"Text/HTML;Level=A", "tEXT/html;lEVEL=a", 3},
		matchCase{"TEXT/*", "text/html", 1},
		matchCase{" text/html ; level = 1", "text/html", -1},
		matchCase{" text/html ; level=1 ; ", "\ttext/html;;LEVEL=\"1\"\t", 3},
		matchCase{`a/b;c="d;e"`, `a/b;x=y;c="D\;E"`, 3},
		// A q is a parameter like others here.
		matchCase{"text/html;q=0.5", "text/html", -1},
		matchCase{"text/html;q=0.5", "text/html;q=0.5", 3},
		matchCase{"text/html", "text/html;q=0", 2},
		matchCase{"*/*;q=x", "text/html;q=y", 0},
		// Only a "*" alone is a wildcard.
		matchCase{"text/x*", "text/x*", 2},
		matchCase{"text/x*", "text/xy", -1},
		matchCase{"**/**", "**/**", 2},
		matchCase{"x*/*", "x*/y", 1},
	)
}

func TestMatchOfMalformedMediaTypes(t *testing.T) {
	for _, s := range []string{
		"", " ", "*", "text", "text/", "/html", "/", "text/html/x", "*/html", "text html", "te xt/html", "text /html", "text/ html", "text\\html",
		`"text"/html`, `text/"html"`, "text/html,text/plain", "text/html;level", "text/html;level=", "text/html;=1", "text/html;level =1", "text/html;level= 1",
		"text/html;a=b c", `text/html;a="b`, `text/html;a=b"`, `text/html;a="b"c`, "text/html;a=b;c", "t\x00/html", "text/htm\xff", "\u0442/html", "text/html\r\n",
		";text/html", ";level=1", "text;/html", "text/html=1",
	} {
		checkMatches(t, api.KindAccept,
			matchCase{s, "text/html", -1},
			matchCase{s, s, -1},
			matchCase{"*/*", s, -1},
			matchCase{"text/*", s, -1},
			matchCase{"text/html", s, -1},
		)
	}
	// A media range is no media type.
	for _, r := range []string{"*/*", "text/*", "text/*;a=b", "*/*;q=1"} {
		checkMatches(t, api.KindAccept,
			matchCase{"*/*", r, -1},
			matchCase{"text/*", r, -1},
			matchCase{"text/html", r, -1},
			matchCase{r, r, -1},
		)
	}
}

func TestMatchOfLanguages(t *testing.T) {
	checkMatches(t, api.KindLanguage,
		matchCase{"*", "de", 0},
		matchCase{"*", "de-CH-1996", 0},
		matchCase{"de", "de", 1},
		matchCase{"de", "de-CH", 1},
		matchCase{"DE", "de-ch", 1},
		matchCase{"de-CH", "de-CH", 2},
		matchCase{"de-ch", "DE-CH-1996", 2},
		matchCase{"de-CH-1996", "de-CH-1996", 3},
		matchCase{"de-CH", "de", -1},
		matchCase{"de", "den", -1},
		matchCase{"den", "de", -1},
		matchCase{"de", "en", -1},
		matchCase{"de-1996", "de-CH-1996", -1},
	)
}

func TestMatchOfMalformedLanguages(t *testing.T) {
	for _, s := range []string{
		"", " ", "-", "-de", "de-", "de--ch", "d1", "1", "abcdefghi", "de-abcdefghi", " de", "de ", "de;q=1", "de,en", "de_CH", "**", "*-CH", "de-*", "d\x00", "d\xe9", "d\u00e9", `"de"`, "*/*",
	} {
		checkMatches(t, api.KindLanguage,
			matchCase{s, "de", -1},
			matchCase{s, s, -1},
			matchCase{"*", s, -1},
			matchCase{"de", s, -1},
		)
	}
	for _, r := range []string{"*", "de"} {
		checkMatch(t, api.KindLanguage, r, "*", -1)
	}
}

func TestMatchOfTokens(t *testing.T) {
	for _, kind := range tokenKinds {
		checkMatches(t, kind,
			matchCase{"*", "gzip", 0},
			matchCase{"*", "x-gzip", 0},
			matchCase{"*", "identity", 0},
			matchCase{"*", "**", 0},
			matchCase{"gzip", "gzip", 1},
			matchCase{"GZip", "gzIP", 1},
			matchCase{"UTF-8", "utf-8", 1},
			matchCase{"utf-8", "utf-16", -1},
			matchCase{"gzip", "br", -1},
			matchCase{"gzip", "gzip-9", -1},
			matchCase{"gzip-9", "gzip", -1},
			matchCase{"x-gzip", "X-GZIP", 1},
			matchCase{"x-gzip", "x-compress", -1},
			matchCase{"identity", "IDENTITY", 1},
			matchCase{"a!#$%&'*+-.^_`|~", "A!#$%&'*+-.^_`|~", 1},
			matchCase{"**", "**", 1},
			matchCase{"g*", "gzip", -1},
		)
	}
}

// Only content codings have aliases.
func TestMatchOfAliases(t *testing.T) {
	for _, pair := range [][2]string{{"x-gzip", "gzip"}, {"X-GZIP", "GZIP"}, {"x-compress", "compress"}, {"X-Compress", "compress"}} {
		checkMatch(t, api.KindCoding, pair[0], pair[1], 1)
		checkMatch(t, api.KindCoding, pair[1], pair[0], 1)
		checkMatch(t, api.KindCharset, pair[0], pair[1], -1)
		checkMatch(t, api.KindCharset, pair[1], pair[0], -1)
	}
}

func TestMatchOfMalformedTokens(t *testing.T) {
	for _, kind := range tokenKinds {
		for _, s := range []string{
			"", " ", " gzip", "gzip ", "\tgzip", "g zip", "gzip,br", "gzip;q=1", "gzip;", `"gzip"`, "gzip/1", "gzip=1", "(gzip)", "gzip\x00", "\x7f", "\xff", "gz\u0131p", "* ", " *", "*;q=1", "*/*", "gzip\r\n",
		} {
			checkMatches(t, kind,
				matchCase{s, "gzip", -1},
				matchCase{s, s, -1},
				matchCase{"*", s, -1},
				matchCase{"gzip", s, -1},
			)
		}
		// A "*" is a range, but no value.
		checkMatch(t, kind, "*", "*", -1)
		checkMatch(t, kind, "gzip", "*", -1)
		checkMatch(t, kind, "**", "*", -1)
	}
}

func TestMatchOfEveryByte(t *testing.T) {
	for b := range 256 {
		for _, kind := range kinds {
			for _, s := range []string{single(b), "a" + single(b), single(b) + "a", "a/" + single(b), "a/b" + single(b)} {
				for _, other := range []string{"*", "*/*", "a/*", "a", "aa", "a/b", s} {
					checkMatch(t, kind, other, s, expectedMatch(kind, other, s))
					checkMatch(t, kind, s, other, expectedMatch(kind, s, other))
				}
			}
		}
	}
}

func TestMatchOfOtherKinds(t *testing.T) {
	for _, kind := range otherKinds {
		for _, s := range []string{"", "*", "*/*", "text/html", "de", "de-CH", "utf-8", "gzip", "x-gzip", "identity"} {
			checkMatch(t, kind, s, s, -1)
			checkMatch(t, kind, "*", s, -1)
			checkMatch(t, kind, "*/*", s, -1)
		}
	}
}

func TestMatchOfAllPairsOfSequences(t *testing.T) {
	texts := sequences(3, "*", "/", "a", "A", "-", ";B=\"C\"", "x-gzip", "gzip")
	for _, r := range texts {
		for _, value := range texts {
			for _, kind := range kinds {
				if got, want := accept.Match(kind, r, value), expectedMatch(kind, r, value); got != want {
					t.Fatalf("Match(%d, %q, %q) = %d, not %d", kind, r, value, got, want)
				}
			}
		}
	}
}

func TestMatchOfOneByteChanges(t *testing.T) {
	for _, origin := range []string{"text/html;a=\"b\"", "text/*", "de-CH", "x-gzip", "*"} {
		for _, changed := range changes(origin) {
			for _, other := range []string{"text/html;a=b", "text/html", "text/*", "*/*", "de-CH", "de", "gzip", "x-gzip", "*"} {
				for _, kind := range kinds {
					checkMatch(t, kind, changed, other, expectedMatch(kind, changed, other))
					checkMatch(t, kind, other, changed, expectedMatch(kind, other, changed))
				}
			}
		}
	}
}

func TestMatchOfLongTexts(t *testing.T) {
	const count = 1000000
	long := strings.Repeat("a", count)
	checkMatches(t, api.KindAccept,
		matchCase{long + "/" + long, strings.ToUpper(long + "/" + long), 2},
		matchCase{long + "/*", long + "/" + long, 1},
		matchCase{"*/*", "a/b" + strings.Repeat(";c=d", count), 0},
		matchCase{"a/b" + strings.Repeat(";c=d", count), "a/b;c=d", 2 + count},
		matchCase{"a/b;" + long + "=c", "a/b;" + long + "=c", 3},
	)
	checkMatch(t, api.KindLanguage, "a"+strings.Repeat("-b", count), "a"+strings.Repeat("-b", count)+"-c", 1+count)
	checkMatch(t, api.KindLanguage, long, long, -1)
	for _, kind := range tokenKinds {
		checkMatch(t, kind, long, strings.ToUpper(long), 1)
		checkMatch(t, kind, long, long+"a", -1)
		checkMatch(t, kind, "*", long, 0)
	}
}

// Promise 13.3, Format

func checkFormat(t *testing.T, want string, l ...api.Pref) {
	t.Helper()
	before := slices.Clone(l)
	if got := accept.Format(l); got != want {
		t.Errorf("Format(%s) = %.200q, not %.200q", shortened(l), got, want)
	}
	if !slices.Equal(l, before) {
		t.Errorf("Format has changed its argument to %s", shortened(l))
	}
}

func TestFormat(t *testing.T) {
	checkFormat(t, "")
	checkFormat(t, "", []api.Pref{}...)
	checkFormat(t, "gzip", api.Pref{Range: "gzip", Q: 1000})
	checkFormat(t, "gzip;q=0.5", api.Pref{Range: "gzip", Q: 500})
	checkFormat(t, "*;q=0", api.Pref{Range: "*"})
	checkFormat(t, "da, en-gb;q=0.8, en;q=0.7", api.Pref{Range: "da", Q: 1000}, api.Pref{Range: "en-gb", Q: 800}, api.Pref{Range: "en", Q: 700})
	checkFormat(t, "text/html;level=1;q=0.4, */*", api.Pref{Range: "text/html;level=1", Q: 400}, api.Pref{Range: "*/*", Q: 1000})
	checkFormat(t, "a, a, a;q=0.001, a", api.Pref{Range: "a", Q: 1000}, api.Pref{Range: "a", Q: 1000}, api.Pref{Range: "a", Q: 1}, api.Pref{Range: "a", Q: 1000})
}

func TestFormatOfQualities(t *testing.T) {
	for q, text := range map[int]string{0: "0", 1: "0.001", 10: "0.01", 12: "0.012", 100: "0.1", 120: "0.12", 123: "0.123", 500: "0.5", 900: "0.9", 990: "0.99", 999: "0.999"} {
		checkFormat(t, "br;q="+text, api.Pref{Range: "br", Q: q})
		checkFormat(t, "a, br;q="+text+", b", api.Pref{Range: "a", Q: 1000}, api.Pref{Range: "br", Q: q}, api.Pref{Range: "b", Q: 1000})
	}
}

// A number that is no quality has the text "" (qvalue.Format).
func TestFormatOfNumbersThatAreNoQualities(t *testing.T) {
	for _, q := range []int{-1, -500, -1000, 1001, 2000, 10000, math.MaxInt, math.MinInt, 1000 + 1<<16, 1000 + 1<<32} {
		checkFormat(t, "br;q=", api.Pref{Range: "br", Q: q})
		checkFormat(t, "br;q=, gzip", api.Pref{Range: "br", Q: q}, api.Pref{Range: "gzip", Q: 1000})
	}
}

// Format judges no range.
func TestFormatOfWhatIsNoRange(t *testing.T) {
	for _, r := range []string{"", " ", ",", "a, b", ";q=1", "A;B", `"`, "\x00", "\xff\xfe", "\r\n", "X-GZIP", strings.Repeat("a,", 1000000)} {
		checkFormat(t, r, api.Pref{Range: r, Q: 1000})
		checkFormat(t, r+";q=0.25, "+r+";q=0, "+r, api.Pref{Range: r, Q: 250}, api.Pref{Range: r}, api.Pref{Range: r, Q: 1000})
	}
}

func TestFormatOfManyPreferences(t *testing.T) {
	const count = 200000
	var l []api.Pref
	for i := range count {
		l = append(l, api.Pref{Range: "a", Q: 500 * (1 + i%2)})
	}
	checkFormat(t, strings.TrimSuffix(strings.Repeat("a;q=0.5, a, ", count/2), ", "), l...)
	checkFormat(t, strings.Repeat("a;q=0.5, a, ", 32)+"a;q=0.5", l[:65]...) // there is no limit of members
}
