package coding_test

import (
	"math"
	"regexp"
	"strings"
	"testing"

	"variantproxy/api"
	"variantproxy/coding"
)

// otherKinds are those without aliases, also such as are no kinds.
var otherKinds = []int{api.KindOther, api.KindAccept, api.KindLanguage, api.KindCharset, api.KindCoding + 1, -api.KindCoding, -1, 99, api.KindCoding + 1<<8, api.KindCoding + 1<<16, math.MaxInt, math.MinInt}

var allKinds = append([]int{api.KindCoding}, otherKinds...)

func single(b int) string {
	return string([]byte{byte(b)})
}

// sequences returns all texts of up to count of the pieces.
func sequences(count int, pieces ...string) []string {
	all, longest := []string{""}, []string{""}
	for range count {
		var longer []string
		for _, s := range longest {
			for _, piece := range pieces {
				longer = append(longer, s+piece)
			}
		}
		all, longest = append(all, longer...), longer
	}
	return all
}

// Promise 12.1, Canonical

func checkCanonical(t *testing.T, kind int, s, want string) {
	t.Helper()
	if got := coding.Canonical(kind, s); got != want {
		t.Errorf("Canonical(%d, %.80q) = %.80q, not %.80q", kind, s, got, want)
	}
}

// checkSame expects that a text has the same form for each kind.
func checkSame(t *testing.T, s, want string) {
	t.Helper()
	for _, kind := range allKinds {
		checkCanonical(t, kind, s, want)
	}
}

func TestCanonical(t *testing.T) {
	for s, want := range map[string]string{
		"gzip":                       "gzip",
		"GZip":                       "gzip",
		"compress":                   "compress",
		"COMPRESS":                   "compress",
		"br":                         "br",
		"Br":                         "br",
		"deflate":                    "deflate",
		"zstd":                       "zstd",
		"Identity":                   "identity",
		"UTF-8":                      "utf-8",
		"utf-8":                      "utf-8",
		"ISO-8859-1":                 "iso-8859-1",
		"X-Mac-Cyrillic":             "x-mac-cyrillic",
		"Windows-1252":               "windows-1252",
		"*":                          "*",
		"a!#$%&'*+-.^_`|":            "a!#$%&'*+-.^_`|",
		"0123456789":                 "0123456789",
		"ABCDEFGHIJKLMNOPQRSTUVWXYZ": "abcdefghijklmnopqrstuvwxyz",
		"abcdefghijklmnopqrstuvwxyz": "abcdefghijklmnopqrstuvwxyz",
	} {
		checkSame(t, s, want)
	}
}

func TestCanonicalOfAliases(t *testing.T) {
	for s, want := range map[string]string{
		"x-gzip":     "gzip",
		"X-GZIP":     "gzip",
		"X-gzip":     "gzip",
		"x-GzIp":     "gzip",
		"x-compress": "compress",
		"X-COMPRESS": "compress",
		"X-compress": "compress",
		"x-ComPress": "compress",
	} {
		checkCanonical(t, api.KindCoding, s, want)
	}
}

func TestCanonicalOfAliasesForOtherKinds(t *testing.T) {
	for _, kind := range otherKinds {
		checkCanonical(t, kind, "x-gzip", "x-gzip")
		checkCanonical(t, kind, "X-GZIP", "x-gzip")
		checkCanonical(t, kind, "x-compress", "x-compress")
		checkCanonical(t, kind, "X-Compress", "x-compress")
	}
}

// withEachCase returns a text with each choice of upper and lower case.
func withEachCase(lowered string) []string {
	written := []string{""}
	for i := range len(lowered) {
		letter := lowered[i : i+1]
		var longer []string
		for _, s := range written {
			longer = append(longer, s+letter)
			if upper := strings.ToUpper(letter); upper != letter {
				longer = append(longer, s+upper)
			}
		}
		written = longer
	}
	return written
}

func TestCanonicalOfAliasesInAnyCase(t *testing.T) {
	for alias, want := range map[string]string{"x-gzip": "gzip", "x-compress": "compress"} {
		texts := withEachCase(alias)
		if len(texts) != 1<<(len(alias)-1) {
			t.Fatalf("%d ways to write %s", len(texts), alias)
		}
		for _, s := range texts {
			checkCanonical(t, api.KindCoding, s, want)
			checkCanonical(t, api.KindCharset, s, alias)
		}
	}
}

// Only the two whole names are aliases.
func TestCanonicalOfWhatResemblesAnAlias(t *testing.T) {
	for _, s := range []string{
		"", "x", "x-", "-", "-gzip", "xgzip", "x_gzip", "x--gzip", "x-x-gzip", "xx-gzip", "y-gzip", "x-gzi", "x-gzipp", "x-gzip-", "gzip-x", "x-zip", "x-gz",
		"-compress", "xcompress", "x_compress", "x--compress", "x-x-compress", "x-compres", "x-compresss", "x-compressed", "x-gzipcompress", "compress-x",
		"x-br", "x-deflate", "x-zstd", "x-identity", "x-pack200-gzip", "x-utf-8", "x-*", "x-gzip x-gzip", "x-gzip,x-compress",
		" x-gzip", "x-gzip ", "\tx-gzip", "x-gzip\t", "x -gzip", "x- gzip", "x-gzip;q=1", `"x-gzip"`, "x-gzip\x00", "\x00x-gzip", "x-gzip\r\n", "x\u2010gzip", "x-gz\u0131p",
	} {
		checkSame(t, s, s)
	}
}

// asciiLower lowers a text byte by byte and knows no other alphabet.
func asciiLower(s string) string {
	const upper, lower = "ABCDEFGHIJKLMNOPQRSTUVWXYZ", "abcdefghijklmnopqrstuvwxyz"
	var lowered []byte
	for i := range len(s) {
		if at := strings.IndexByte(upper, s[i]); at >= 0 {
			lowered = append(lowered, lower[at])
		} else {
			lowered = append(lowered, s[i])
		}
	}
	return string(lowered)
}

func TestCanonicalOfEveryByte(t *testing.T) {
	for b := range 256 {
		for _, s := range []string{single(b), single(b) + "x", "X" + single(b), "a" + single(b) + "B" + single(b)} {
			checkSame(t, s, asciiLower(s))
		}
	}
}

// Case is that of ASCII letters only.
func TestCanonicalOfOtherAlphabets(t *testing.T) {
	for _, s := range []string{"\u00c4", "\u00e4", "\u212a", "\u017f", "\u0130", "\u0391", "\xc0", "\xff\xfe", "\xf0\x9f", "x-gz\u0130p", "x-compre\u017fs", "x-compres\u017f"} {
		checkSame(t, s, s)
	}
	checkSame(t, "A\u00c4Z", "a\u00c4z")
	checkSame(t, "X-COMPRES\u017f", "x-compres\u017f")
}

// alias is tried on texts whose bytes are written as the characters with their
// numbers.
var alias = regexp.MustCompile(`\A[Xx]-([Gg][Zz][Ii][Pp]|[Cc][Oo][Mm][Pp][Rr][Ee][Ss][Ss])\z`)

func expectedCanonical(kind int, s string) string {
	characters := make([]rune, len(s))
	for i := range len(s) {
		characters[i] = rune(s[i])
	}
	if kind == api.KindCoding && alias.MatchString(string(characters)) {
		return asciiLower(s)[2:]
	}
	return asciiLower(s)
}

// changes returns a text with each byte replaced, inserted and removed.
func changes(s string) []string {
	var changed []string
	for at := range len(s) + 1 {
		for b := range 256 {
			changed = append(changed, s[:at]+single(b)+s[at:])
			if at < len(s) {
				changed = append(changed, s[:at]+single(b)+s[at+1:])
			}
		}
		if at < len(s) {
			changed = append(changed, s[:at]+s[at+1:])
		}
	}
	return changed
}

func TestCanonicalOfOneByteChanges(t *testing.T) {
	for _, origin := range []string{"x-gzip", "X-GZIP", "x-compress", "X-Compress", "gzip", "COMPRESS", "*", ""} {
		for _, s := range changes(origin) {
			for _, kind := range allKinds {
				checkCanonical(t, kind, s, expectedCanonical(kind, s))
			}
		}
	}
}

func TestCanonicalOfSequences(t *testing.T) {
	for _, s := range sequences(5, "x", "X-", "-", "gzip", "GZ", "ip", "Com", "press") {
		checkCanonical(t, api.KindCoding, s, expectedCanonical(api.KindCoding, s))
		checkCanonical(t, api.KindCharset, s, expectedCanonical(api.KindCharset, s))
	}
}

// What Canonical returns is its own form.
func TestCanonicalOfItsResult(t *testing.T) {
	for _, s := range []string{"X-GZIP", "x-compress", "GZIP", "UTF-8", "*", "", "x-x-gzip"} {
		for _, kind := range allKinds {
			once := coding.Canonical(kind, s)
			checkCanonical(t, kind, once, once)
		}
	}
}

func TestCanonicalOfLongTexts(t *testing.T) {
	const count = 1000000
	checkSame(t, strings.Repeat("A", count), strings.Repeat("a", count))
	checkSame(t, strings.Repeat("X-GZIP", count), strings.Repeat("x-gzip", count))
	checkSame(t, "x-"+strings.Repeat("gzip", count), "x-"+strings.Repeat("gzip", count))
	checkSame(t, strings.Repeat("x-", count)+"gzip", strings.Repeat("x-", count)+"gzip")
	checkSame(t, strings.Repeat("\xff", count), strings.Repeat("\xff", count))
}

// Promise 12.2, Match

func checkMatch(t *testing.T, kind int, r, value string, want int) {
	t.Helper()
	if got := coding.Match(kind, r, value); got != want {
		t.Errorf("Match(%d, %.80q, %.80q) = %d, not %d", kind, r, value, got, want)
	}
}

// checkMatches expects the same for each kind.
func checkMatches(t *testing.T, r, value string, want int) {
	t.Helper()
	for _, kind := range allKinds {
		checkMatch(t, kind, r, value, want)
	}
}

func TestMatch(t *testing.T) {
	checkMatches(t, "gzip", "gzip", 1)
	checkMatches(t, "GZIP", "gzip", 1)
	checkMatches(t, "gzip", "GZip", 1)
	checkMatches(t, "UTF-8", "utf-8", 1)
	checkMatches(t, "x-gzip", "X-GZIP", 1)
	checkMatches(t, "x-compress", "x-compress", 1)
	checkMatches(t, "br", "gzip", -1)
	checkMatches(t, "gzip", "br", -1)
	checkMatches(t, "identity", "gzip", -1)
	checkMatches(t, "utf-8", "utf-16", -1)
	checkMatches(t, "utf-8", "utf8", -1)
	checkMatches(t, "gzip", "compress", -1)
	checkMatches(t, "x-gzip", "x-compress", -1)
	checkMatches(t, "x-gzip", "compress", -1)
	checkMatches(t, "compress", "x-gzip", -1)
}

// An alias matches its coding, on either side, and for KindCoding alone.
func TestMatchOfAliases(t *testing.T) {
	for _, pair := range [][2]string{{"X-GZIP", "gzip"}, {"x-gzip", "GZIP"}, {"x-compress", "compress"}, {"X-Compress", "Compress"}} {
		checkMatch(t, api.KindCoding, pair[0], pair[1], 1)
		checkMatch(t, api.KindCoding, pair[1], pair[0], 1)
		for _, kind := range otherKinds {
			checkMatch(t, kind, pair[0], pair[1], -1)
			checkMatch(t, kind, pair[1], pair[0], -1)
		}
	}
}

// The range "*" matches what it equals no more specifically than all else.
func TestMatchOfStar(t *testing.T) {
	for _, value := range []string{"*", "gzip", "X-GZIP", "utf-8", "identity", "", " ", "a b", "\x00", "\xff", "**", strings.Repeat("a", 1000000)} {
		checkMatches(t, "*", value, 0)
	}
	for _, r := range []string{"gzip", "", "**", " *", "* ", "*-", "x-*", "*\x00", `"*"`, "\u2217"} {
		checkMatches(t, r, "*", -1)
	}
	for _, r := range []string{"**", " *", "* ", "\t*", "*gzip", "gzip*", "x-*", "*/*", "*;q=1", "", "*\x00"} {
		checkMatches(t, r, "gzip", -1)
		checkMatches(t, r, r, 1)
	}
}

func TestMatchOfBeginningsAndEnds(t *testing.T) {
	for _, value := range []string{"gzip", "x-gzip", "compress", "utf-8"} {
		for end := range len(value) {
			checkMatches(t, value[:end], value, -1)
			checkMatches(t, value, value[:end], -1)
		}
	}
	checkMatches(t, "gzip", "gzip-9", -1)
	checkMatches(t, "gzip-9", "gzip", -1)
	checkMatches(t, "en", "en-US", -1)
	checkMatches(t, "text/*", "text/html", -1)
}

// Match judges no form: what is no token matches what equals it.
func TestMatchOfWhatIsNoToken(t *testing.T) {
	for _, s := range []string{"", " ", "a b", "A;Q=1", "gzip,br", `"gzip"`, "\x00", "\xff\xfe", "\r\n", "\u212a"} {
		checkMatches(t, s, s, 1)
		checkMatches(t, s, s+"x", -1)
		checkMatches(t, s+"x", s, -1)
	}
	checkMatches(t, " gzip", "gzip", -1)
	checkMatches(t, "gzip", "gzip ", -1)
	checkMatches(t, "", "gzip", -1)
	checkMatches(t, "gzip", "", -1)
}

func TestMatchOfEachPairOfBytes(t *testing.T) {
	for first := range 256 {
		for second := range 256 {
			want := -1
			if asciiLower(single(first)) == asciiLower(single(second)) {
				want = 1
			}
			checkMatch(t, api.KindCoding, "x-gzi"+single(first), "X-GZI"+single(second), want)
			checkMatch(t, api.KindCharset, "utf"+single(first), "UTF"+single(second), want)
			if first == '*' {
				want = 0
			}
			checkMatches(t, single(first), single(second), want)
		}
	}
}

func expectedMatch(kind int, r, value string) int {
	if r == "*" {
		return 0
	}
	if expectedCanonical(kind, r) == expectedCanonical(kind, value) {
		return 1
	}
	return -1
}

func TestMatchOfAllPairsOfSequences(t *testing.T) {
	texts := sequences(3, "x", "X-", "-", "*", "gzip", "GZIP", "compress", "Compress")
	for _, r := range texts {
		for _, value := range texts {
			for _, kind := range []int{api.KindCharset, api.KindCoding} {
				if got, want := coding.Match(kind, r, value), expectedMatch(kind, r, value); got != want {
					t.Fatalf("Match(%d, %q, %q) = %d, not %d", kind, r, value, got, want)
				}
			}
		}
	}
}

func TestMatchOfOneByteChanges(t *testing.T) {
	for _, origin := range []string{"x-gzip", "X-Compress", "gzip", "COMPRESS", "*"} {
		for _, s := range changes(origin) {
			for _, other := range []string{"gzip", "x-gzip", "compress", "X-COMPRESS", "*"} {
				for _, kind := range []int{api.KindCharset, api.KindCoding} {
					checkMatch(t, kind, s, other, expectedMatch(kind, s, other))
					checkMatch(t, kind, other, s, expectedMatch(kind, other, s))
				}
			}
		}
	}
}

func TestMatchOfLongTexts(t *testing.T) {
	const count = 1000000
	long := strings.Repeat("a", count)
	checkMatches(t, long, strings.ToUpper(long), 1)
	checkMatches(t, long, long+"a", -1)
	checkMatches(t, long+"b", long+"c", -1)
	checkMatches(t, strings.Repeat("*", count), long, -1)
	checkMatches(t, strings.Repeat("x-", count)+"gzip", "gzip", -1)
}
