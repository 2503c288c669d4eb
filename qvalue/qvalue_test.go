package qvalue_test

import (
	"fmt"
	"math"
	"regexp"
	"strconv"
	"strings"
	"testing"

	"variantproxy/qvalue"
)

// Promise 8.1, Parse

// checkParse expects the quality value want, or none if want is negative.
func checkParse(t *testing.T, s string, want int) {
	t.Helper()
	wantOK := want >= 0
	if got, ok := qvalue.Parse(s); got != max(want, 0) || ok != wantOK {
		t.Errorf("Parse(%.60q) = %d, %v, not %d, %v", s, got, ok, max(want, 0), wantOK)
	}
}

func checkNoValue(t *testing.T, texts ...string) {
	t.Helper()
	for _, s := range texts {
		checkParse(t, s, -1)
	}
}

func TestParse(t *testing.T) {
	for s, want := range map[string]int{
		"0":     0,
		"0.":    0,
		"0.0":   0,
		"0.00":  0,
		"0.000": 0,
		"0.5":   500,
		"0.50":  500,
		"0.500": 500,
		"0.05":  50,
		"0.050": 50,
		"0.005": 5,
		"0.001": 1,
		"0.01":  10,
		"0.1":   100,
		"0.12":  120,
		"0.123": 123,
		"0.321": 321,
		"0.9":   900,
		"0.99":  990,
		"0.999": 999,
		"1":     1000,
		"1.":    1000,
		"1.0":   1000,
		"1.00":  1000,
		"1.000": 1000,
	} {
		checkParse(t, s, want)
	}
}

func TestParseOfEveryFraction(t *testing.T) {
	for digits, weight := range []int{1000, 100, 10, 1} {
		for fraction := range 1000 / weight {
			text := ""
			if digits > 0 {
				text = fmt.Sprintf("%0*d", digits, fraction)
			}
			checkParse(t, "0."+text, fraction*weight)
			if fraction == 0 {
				checkParse(t, "1."+text, 1000)
			} else {
				checkNoValue(t, "1."+text)
			}
			checkNoValue(t, "2."+text, "."+text, "-0."+text, "00."+text, "0."+text+".", "0."+text+" ")
		}
	}
}

func TestParseOfNoQualityValue(t *testing.T) {
	checkNoValue(t,
		"", ".", "..", " ",
		// What stands before the point is the single digit 0 or 1.
		".5", ".000", "00", "01", "10", "11", "000", "00.5", "01.0", "10.0", "2", "9", "2.0", "9.999", "1000", "500",
		"-0", "+0", "-0.5", "+0.5", "-1", "+1", "a", "q", "/", ":", "q=0.5", "0x1", "1e0", "NaN", "Inf",
		// At most three digits follow it, of which none is left over.
		"0.0000", "0.5000", "0.1234", "0.9999", "1.0000", "1.00000", "0.00000000000000000000",
		// Nothing is more than one.
		"1.1", "1.01", "1.001", "1.5", "1.9", "1.10", "1.010", "1.100", "1.999", "1.0001",
		// There is nothing else than these digits and this point.
		"0,5", "0:5", "0/5", "05", "0 5", "0..5", "0.5.", "0.5.5", "0.0.0", "1..", "1.0.", "0.-5", "0.+5", "0.5-",
		" 0", "0 ", "\t1", "1\t", " 0.5", "0.5 ", "0. 5", "0 .5", "0.5\r\n", "0\n", "0\x00", "\x000", "0.\x00", "1.\x00",
		"0.a", "0.5a", "0.0a", "0.00a", "1.a", "1.0a", "0.x5", "0.5e1", "0x", "1x", "0.5;", "\"0.5\"", "0.5,", "0_1",
		// Digits and points of other scripts are none.
		"\uff10", "\uff11", "0.\uff15", "0\uff0e5", "\u0660", "0.\u0665", "0.\u00b2", "0\u00b75", "0\u066b5",
	)
}

func TestParseOfLongTexts(t *testing.T) {
	zeros := strings.Repeat("0", 1000000)
	checkNoValue(t, zeros, zeros+"1", "0."+zeros, "1."+zeros, zeros+".5", "0"+strings.Repeat(".", 1000000), "0."+strings.Repeat("9", 1000000), "1"+strings.Repeat(" ", 1000000))
}

// qualityText is a quality value, as promise 8.1 describes it.
var qualityText = regexp.MustCompile(`\A(0(\.[0-9]{0,3})?|1(\.0{0,3})?)\z`)

// expectedValue reads a quality value by an expression, and returns -1 if s is
// none. With three digits after the point the digits are the thousandths.
func expectedValue(s string) int {
	if !qualityText.MatchString(s) {
		return -1
	}
	digits := strings.Replace(s, ".", "", 1)
	thousandths, err := strconv.Atoi(digits + strings.Repeat("0", 4-len(digits)))
	if err != nil {
		return -1
	}
	return thousandths
}

func TestParseOfSequencesOfBytes(t *testing.T) {
	const alphabet = "01259. -+e"
	texts := []string{""}
	for range 6 {
		var longer []string
		for _, s := range texts {
			checkParse(t, s, expectedValue(s))
			for i := range len(alphabet) {
				longer = append(longer, s+alphabet[i:i+1])
			}
		}
		texts = longer
	}
	for _, s := range texts {
		checkParse(t, s, expectedValue(s))
	}
}

func TestParseOfTextsWithOneByteChanged(t *testing.T) {
	for _, s := range []string{"", "0", "0.", "0.0", "0.05", "0.123", "0.999", "0.1234", "1", "1.", "1.0", "1.00", "1.000", "1.0000"} {
		for i := range len(s) + 1 {
			for b := range 256 {
				changed := string([]byte{byte(b)})
				inserted := s[:i] + changed + s[i:]
				checkParse(t, inserted, expectedValue(inserted))
				if i < len(s) {
					replaced := s[:i] + changed + s[i+1:]
					checkParse(t, replaced, expectedValue(replaced))
				}
			}
		}
	}
}

// Promise 8.1, Format

func checkFormat(t *testing.T, q int, want string) {
	t.Helper()
	if got := qvalue.Format(q); got != want {
		t.Errorf("Format(%d) = %q, not %q", q, got, want)
	}
}

func TestFormat(t *testing.T) {
	for q, want := range map[int]string{
		0:    "0",
		1:    "0.001",
		5:    "0.005",
		9:    "0.009",
		10:   "0.01",
		50:   "0.05",
		90:   "0.09",
		99:   "0.099",
		100:  "0.1",
		101:  "0.101",
		110:  "0.11",
		120:  "0.12",
		123:  "0.123",
		205:  "0.205",
		500:  "0.5",
		900:  "0.9",
		990:  "0.99",
		999:  "0.999",
		1000: "1",
	} {
		checkFormat(t, q, want)
	}
}

func TestFormatOfEveryQualityValue(t *testing.T) {
	checkFormat(t, 0, "0")
	checkFormat(t, 1000, "1")
	for q := 1; q < 1000; q++ {
		checkFormat(t, q, strings.TrimRight(fmt.Sprintf("0.%03d", q), "0"))
	}
}

func TestFormatOfOtherNumbers(t *testing.T) {
	for distance := 1; distance <= 3000; distance++ {
		checkFormat(t, -distance, "")
		checkFormat(t, 1000+distance, "")
	}
	for _, q := range []int{-1000000, 1000000, math.MinInt32, math.MaxInt32, math.MinInt, math.MinInt + 1, math.MaxInt - 1, math.MaxInt} {
		checkFormat(t, q, "")
	}
	// In fewer bits, these numbers would be quality values.
	for bits := 16; bits < strconv.IntSize; bits++ {
		for _, q := range []int{0, 1, 500, 1000} {
			checkFormat(t, 1<<bits+q, "")
			checkFormat(t, -1<<bits+q, "")
		}
	}
}

// Parse and Format together

func TestParseReadsBackWhatFormatWrites(t *testing.T) {
	for q := range 1001 {
		checkParse(t, qvalue.Format(q), q)
	}
}

// Each text of a quality value is at least as long as the one of Format.
func TestFormatIsTheShortestText(t *testing.T) {
	for _, whole := range []string{"0", "1"} {
		texts := []string{whole, whole + "."}
		for digits := 1; digits <= 3; digits++ {
			for fraction := range 1000 {
				texts = append(texts, fmt.Sprintf("%s.%0*d", whole, digits, fraction))
			}
		}
		for _, s := range texts {
			q, ok := qvalue.Parse(s)
			if shortest := qvalue.Format(q); ok && len(s) < len(shortest) {
				t.Errorf("Format(%d) = %q, but Parse reads this from %q, too", q, shortest, s)
			}
		}
	}
}
