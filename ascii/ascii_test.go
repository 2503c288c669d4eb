package ascii_test

import (
	"math"
	"regexp"
	"strconv"
	"strings"
	"testing"

	"variantproxy/api"
	"variantproxy/ascii"
)

const tokenBytes = "abcdefghijklmnopqrstuvwxyzABCDEFGHIJKLMNOPQRSTUVWXYZ0123456789!#$%&'*+-.^_`|~"

// allBytes holds each byte once, in ascending order.
func allBytes() string {
	var bytes [256]byte
	for i := range bytes {
		bytes[i] = byte(i)
	}
	return string(bytes[:])
}

// words returns all strings of at most length bytes of the alphabet.
func words(alphabet string, length int) []string {
	all := []string{""}
	longest := all
	for range length {
		var longer []string
		for _, word := range longest {
			for i := range len(alphabet) {
				longer = append(longer, word+alphabet[i:i+1])
			}
		}
		all = append(all, longer...)
		longest = longer
	}
	return all
}

// Promise 1.1

func TestTokenOfEverySingleByte(t *testing.T) {
	for b := range 256 {
		s := string([]byte{byte(b)})
		want := strings.IndexByte(tokenBytes, byte(b)) >= 0
		if got := ascii.Token(s); got != want {
			t.Errorf("Token(%q) = %v", s, got)
		}
	}
}

func TestTokenLooksAtEveryPosition(t *testing.T) {
	if ascii.Token("") {
		t.Error("the empty string is no token")
	}
	for _, s := range []string{"gzip", "*", "x-y.z_1", tokenBytes, strings.Repeat("a", 100000)} {
		if !ascii.Token(s) {
			t.Errorf("Token(%.40q) = false", s)
		}
	}
	for _, s := range []string{"a b", " a", "a ", "a/b", "/a", "a/", "a\x00", "\xc3\xa4", "a\xff", "a\tb", "a=b", "\"a\""} {
		if ascii.Token(s) {
			t.Errorf("Token(%q) = true", s)
		}
	}
}

func TestTextOfEverySingleByte(t *testing.T) {
	for b := range 256 {
		s := string([]byte{byte(b)})
		want := b == 9 || b >= 32 && b <= 126 || b >= 128
		if got := ascii.Text(s); got != want {
			t.Errorf("Text(%q) = %v", s, got)
		}
	}
}

func TestTextLooksAtEveryPosition(t *testing.T) {
	for _, s := range []string{"", " a\t~ ", "\x80\xff", "\xc3\xa4 \"(,)\\", strings.Repeat("\xff", 100000)} {
		if !ascii.Text(s) {
			t.Errorf("Text(%.40q) = false", s)
		}
	}
	for _, s := range []string{"\na", "a\n", "a\rb", "ab\x7f", "\x00ab", "a\x1fb"} {
		if ascii.Text(s) {
			t.Errorf("Text(%q) = true", s)
		}
	}
}

// Promise 1.2

func TestLowerOfEveryByte(t *testing.T) {
	want := []byte(allBytes())
	for b := 'A'; b <= 'Z'; b++ {
		want[b] = byte(b - 'A' + 'a')
	}
	if got := ascii.Lower(allBytes()); got != string(want) {
		t.Errorf("Lower of all bytes = %q", got)
	}
	for s, want := range map[string]string{
		"":                           "",
		"Content-TYPE":               "content-type",
		"ABCDEFGHIJKLMNOPQRSTUVWXYZ": "abcdefghijklmnopqrstuvwxyz",
		"\u00c4\u212a\u0130":         "\u00c4\u212a\u0130",
		"@[`{\xc1\xe1":               "@[`{\xc1\xe1",
	} {
		if got := ascii.Lower(s); got != want {
			t.Errorf("Lower(%q) = %q", s, got)
		}
	}
}

func TestFoldOfEveryPairOfBytes(t *testing.T) {
	for a := range 256 {
		for b := range 256 {
			letters := a >= 'A' && a <= 'Z' && b == a+32 || b >= 'A' && b <= 'Z' && a == b+32
			want := a == b || letters
			if got := ascii.Fold("x"+string([]byte{byte(a)}), "X"+string([]byte{byte(b)})); got != want {
				t.Errorf("Fold of bytes %d and %d = %v", a, b, got)
			}
		}
	}
}

func TestFoldComparesWholeStrings(t *testing.T) {
	for _, pair := range [][2]string{{"", ""}, {"ETag", "etag"}, {"VARY", "vArY"}, {"a\xff", "A\xff"}} {
		if !ascii.Fold(pair[0], pair[1]) {
			t.Errorf("Fold(%q, %q) = false", pair[0], pair[1])
		}
	}
	for _, pair := range [][2]string{{"", "a"}, {"a", ""}, {"a", "aa"}, {"aa", "a"}, {"ab", "bb"}, {"ab", "ac"}, {"k", "\u212a"}, {"a ", "a"}} {
		if ascii.Fold(pair[0], pair[1]) {
			t.Errorf("Fold(%q, %q) = true", pair[0], pair[1])
		}
	}
}

func TestTrimRemovesSpacesAndTabsAtBothEnds(t *testing.T) {
	for s, want := range map[string]string{
		"":                "",
		" ":               "",
		"\t":              "",
		" \t \t":          "",
		"a":               "a",
		" a":              "a",
		"a ":              "a",
		"\ta\t":           "a",
		" \t a \t b\t \t": "a \t b",
		"\n a \r":         "\n a \r",
		"\va\f":           "\va\f",
		"\u00a0a\u00a0":   "\u00a0a\u00a0",
		" \x00 ":          "\x00",
		" \xff\x85 ":      "\xff\x85",
	} {
		if got := ascii.Trim(s); got != want {
			t.Errorf("Trim(%q) = %q", s, got)
		}
	}
	blanks := strings.Repeat(" \t", 50000)
	if got := ascii.Trim(blanks + "a" + blanks); got != "a" {
		t.Errorf("Trim keeps %d bytes", len(got))
	}
}

func TestTrimOfEverySingleByte(t *testing.T) {
	for b := range 256 {
		s := string([]byte{byte(b)})
		want := s
		if b == ' ' || b == '\t' {
			want = ""
		}
		if got := ascii.Trim(s); got != want {
			t.Errorf("Trim(%q) = %q", s, got)
		}
	}
}

// Promise 1.3

func TestNumberReadsDigits(t *testing.T) {
	for s, want := range map[string]int{
		"0":                              0,
		"9":                              9,
		"10":                             10,
		"007":                            7,
		"0000":                           0,
		"1234567890":                     1234567890,
		"00000000000000000000002147":     2147,
		"2147483639":                     2147483639,
		"2147483640":                     2147483640,
		"2147483646":                     2147483646,
		"2147483647":                     api.MaxSeconds,
		"2147483648":                     api.MaxSeconds,
		"2147483649":                     api.MaxSeconds,
		"2147483650":                     api.MaxSeconds,
		"3000000000":                     api.MaxSeconds,
		"4294967296":                     api.MaxSeconds,
		"9223372036854775808":            api.MaxSeconds,
		"18446744073709551616":           api.MaxSeconds,
		"184467440737095516160":          api.MaxSeconds,
		"00002147483648":                 api.MaxSeconds,
		"21474836470":                    api.MaxSeconds,
		strings.Repeat("0", 100000):      0,
		strings.Repeat("9", 100000):      api.MaxSeconds,
		strings.Repeat("0", 99999) + "4": 4,
	} {
		if got, ok := ascii.Number(s); got != want || !ok {
			t.Errorf("Number(%.40q) = %d, %v", s, got, ok)
		}
	}
}

func TestNumberRefusesOtherBytesAtEveryPosition(t *testing.T) {
	for b := range 256 {
		if b >= '0' && b <= '9' {
			continue
		}
		other := string([]byte{byte(b)})
		for _, s := range []string{other, other + "12", "1" + other + "2", "12" + other, "99999999999" + other} {
			if got, ok := ascii.Number(s); got != 0 || ok {
				t.Errorf("Number(%q) = %d, %v", s, got, ok)
			}
		}
	}
	for _, s := range []string{"", "1e3", "0x1", "1_000", "\u0661", "\uff11"} {
		if got, ok := ascii.Number(s); got != 0 || ok {
			t.Errorf("Number(%q) = %d, %v", s, got, ok)
		}
	}
}

func TestDecimalWritesEveryMagnitude(t *testing.T) {
	for n, want := range map[int]string{
		0:              "0",
		7:              "7",
		-7:             "-7",
		10:             "10",
		-10:            "-10",
		120:            "120",
		api.MaxSeconds: "2147483647",
		math.MaxInt64:  "9223372036854775807",
		-math.MaxInt64: "-9223372036854775807",
		math.MinInt64:  "-9223372036854775808",
	} {
		if got := ascii.Decimal(n); got != want {
			t.Errorf("Decimal(%d) = %q", n, got)
		}
	}
	for n := -12345; n <= 12345; n++ {
		if got := ascii.Decimal(n); got != strconv.Itoa(n) {
			t.Fatalf("Decimal(%d) = %q", n, got)
		}
	}
	for power := 1; power < math.MaxInt64/10; power *= 10 {
		for _, n := range []int{power - 1, power, power + 1, -power + 1, -power, -power - 1} {
			if got := ascii.Decimal(n); got != strconv.Itoa(n) {
				t.Errorf("Decimal(%d) = %q", n, got)
			}
		}
	}
}

func TestNumberReadsWhatDecimalWrites(t *testing.T) {
	for _, n := range []int{0, 1, 9, 10, 99, 100, 65535, api.MaxSeconds - 1, api.MaxSeconds} {
		if got, ok := ascii.Number(ascii.Decimal(n)); got != n || !ok {
			t.Errorf("Number(Decimal(%d)) = %d, %v", n, got, ok)
		}
	}
}

// Promise 1.4

func TestQuoteEscapesQuotesAndBackslashesOnly(t *testing.T) {
	for s, want := range map[string]string{
		"":       `""`,
		"a":      `"a"`,
		`"`:      `"\""`,
		`\`:      `"\\"`,
		`a"b\`:   `"a\"b\\"`,
		`\"`:     `"\\\""`,
		"a\tb":   "\"a\tb\"",
		"\n\x00": "\"\n\x00\"",
		"\xff'":  "\"\xff'\"",
	} {
		if got := ascii.Quote(s); got != want {
			t.Errorf("Quote(%q) = %q", s, got)
		}
	}
	want := `"` + strings.NewReplacer(`"`, `\"`, `\`, `\\`).Replace(allBytes()) + `"`
	if got := ascii.Quote(allBytes()); got != want {
		t.Errorf("Quote of all bytes = %q", got)
	}
}

func TestUnquoteResolvesEscapes(t *testing.T) {
	for s, want := range map[string]string{
		`""`:            "",
		`"a"`:           "a",
		`"a\"b"`:        `a"b`,
		`"\a\b\\"`:      `ab\`,
		`"\\\""`:        `\"`,
		`"\""`:          `"`,
		"\"\\\t\"":      "\t",
		"\"a\t \xff~\"": "a\t \xff~",
		"\"\\\x80\"":    "\x80",
	} {
		if got, ok := ascii.Unquote(s); got != want || !ok {
			t.Errorf("Unquote(%q) = %q, %v", s, got, ok)
		}
	}
}

func TestUnquoteRefusesOtherStrings(t *testing.T) {
	for _, s := range []string{
		"", `"`, "a", `a"`, `"a`, `\"`, `"\`, `'a'`, // not between two double quotes
		` "a"`, `"a" `, `"a"b`, `a"b"`,
		`"a"b"`, `"""`, `""""`, `"a""`, `""a"`, `"\\""`, // a double quote between
		`"\"`, `"a\"`, `"\\\"`, // the last double quote is escaped
		"\"\n\"", "\"\r\n\"", "\"a\x00\"", "\"\x7f\"", "\"\x1fa\"", // not permitted by Text
		"\"\\\n\"", "\"\\\x00\"", "\"a\\\x7f\"", // nor after a backslash
	} {
		if got, ok := ascii.Unquote(s); got != "" || ok {
			t.Errorf("Unquote(%q) = %q, %v", s, got, ok)
		}
	}
}

func TestUnquoteOfEveryByte(t *testing.T) {
	for b := range 256 {
		single := string([]byte{byte(b)})
		text := b == 9 || b >= 32 && b <= 126 || b >= 128
		plain := text && b != '"' && b != '\\'
		if got, ok := ascii.Unquote(`"` + single + `"`); ok != plain || ok && got != single || !ok && got != "" {
			t.Errorf("Unquote of plain byte %d = %q, %v", b, got, ok)
		}
		if got, ok := ascii.Unquote(`"\` + single + `"`); ok != text || ok && got != single || !ok && got != "" {
			t.Errorf("Unquote of escaped byte %d = %q, %v", b, got, ok)
		}
	}
}

func TestUnquoteOfAllShortStrings(t *testing.T) {
	// All strings tried are ASCII, so that the expressions see single bytes.
	quoted := regexp.MustCompile(`\A"(?:[\t !#-\[\]-~]|\\[\t -~])*"\z`)
	escape := regexp.MustCompile(`\\(.)`)
	for _, s := range words("\"\\a\t\x7f", 6) {
		wantOK := quoted.MatchString(s)
		want := ""
		if wantOK {
			want = escape.ReplaceAllString(s[1:len(s)-1], "$1")
		}
		if got, ok := ascii.Unquote(s); got != want || ok != wantOK {
			t.Fatalf("Unquote(%q) = %q, %v", s, got, ok)
		}
	}
}

// Consequences

func TestUnquoteReversesQuoteForText(t *testing.T) {
	samples := append(words("\"\\a\t\xff", 5), strings.Repeat(`\"`, 50000))
	for b := range 256 {
		samples = append(samples, string([]byte{byte(b)}), "a"+string([]byte{byte(b)})+"b")
	}
	for _, s := range samples {
		got, ok := ascii.Unquote(ascii.Quote(s))
		switch {
		case ascii.Text(s) && (got != s || !ok):
			t.Errorf("Unquote(Quote(%.40q)) = %.40q, %v", s, got, ok)
		case !ascii.Text(s) && (got != "" || ok):
			t.Errorf("Unquote(Quote(%.40q)) = %.40q, %v", s, got, ok)
		}
	}
}
