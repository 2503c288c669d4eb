package date_test

import (
	"fmt"
	"math/rand"
	"regexp"
	"slices"
	"strconv"
	"testing"

	"variantproxy/date"
)

// The model walks through the calendar day after day, and reads dates by an expression.

var dateText = regexp.MustCompile(`\A(Mon|Tue|Wed|Thu|Fri|Sat|Sun), (\d\d) (Jan|Feb|Mar|Apr|May|Jun|Jul|Aug|Sep|Oct|Nov|Dec) (\d\d\d\d) ([01]\d|2[0-3]):([0-5]\d):([0-5]\d) GMT\z`)

func weekNames() []string {
	return []string{"Mon", "Tue", "Wed", "Thu", "Fri", "Sat", "Sun"}
}

func monthNames() []string {
	return []string{"Jan", "Feb", "Mar", "Apr", "May", "Jun", "Jul", "Aug", "Sep", "Oct", "Nov", "Dec"}
}

// expectedLength returns the number of days of a month that exists.
func expectedLength(year, month int) int {
	switch month {
	case 4, 6, 9, 11:
		return 30
	case 2:
		if year%400 == 0 || year%4 == 0 && year%100 != 0 {
			return 29
		}
		return 28
	}
	return 31
}

// calendar holds the number of the first day of each month from 1970 to 9999.
func calendar() map[[2]int]int64 {
	firsts := map[[2]int]int64{}
	days := int64(0)
	for year := 1970; year <= 9999; year++ {
		for month := 1; month <= 12; month++ {
			firsts[[2]int{year, month}] = days
			days += int64(expectedLength(year, month))
		}
	}
	return firsts
}

// expectedDays returns the number of a day, and -1 if the calendar does not have it.
func expectedDays(firsts map[[2]int]int64, year, month, day int) int64 {
	first, ok := firsts[[2]int{year, month}]
	if !ok || day < 1 || day > expectedLength(year, month) {
		return -1
	}
	return first + int64(day) - 1
}

// expectedSeconds returns the number that a text stands for, and -1 if it is no date.
func expectedSeconds(firsts map[[2]int]int64, s string) int64 {
	parts := dateText.FindStringSubmatch(s)
	if parts == nil {
		return -1
	}
	number := func(i int) int {
		value, _ := strconv.Atoi(parts[i])
		return value
	}
	days := expectedDays(firsts, number(4), 1+slices.Index(monthNames(), parts[3]), number(2))
	// January 1 of 1970 was a Thursday.
	if days < 0 || parts[1] != weekNames()[(days+3)%7] {
		return -1
	}
	return days*86400 + int64(number(5)*3600+number(6)*60+number(7))
}

func checkParse(t *testing.T, firsts map[[2]int]int64, s string) {
	t.Helper()
	if want := expectedSeconds(firsts, s); want >= 0 {
		checkDate(t, want, s)
	} else {
		checkNoDate(t, s)
	}
}

// Every day that there is, at some time of the day, and the days beside the first and
// the last one of each month.
func TestEveryDay(t *testing.T) {
	days := int64(0)
	for year := 1970; year <= 9999; year++ {
		checkNoDay(t, [3]int{year, 0, 1}, [3]int{year, 13, 1})
		for month := 1; month <= 12; month++ {
			length := expectedLength(year, month)
			checkNoDay(t, [3]int{year, month, 0}, [3]int{year, month, length + 1})
			for day := 1; day <= length; day++ {
				checkDays(t, year, month, day, days)
				checkDayAt(t, days, year, month, day, int(days*7919%86400))
				days++
			}
		}
		if t.Failed() {
			return
		}
	}
	if days != 2932897 {
		t.Errorf("%d days", days)
	}
}

// checkDayAt checks the date of a day at a time of the day.
func checkDayAt(t *testing.T, days int64, year, month, day, seconds int) {
	t.Helper()
	text := []byte(weekNames()[(days+3)%7])
	text = append(text, ", "...)
	text = appendTwoDigits(text, day)
	text = append(text, ' ')
	text = append(text, monthNames()[month-1]...)
	text = append(text, ' ')
	text = strconv.AppendInt(text, int64(year), 10)
	for i, part := range [3]int{seconds / 3600, seconds / 60 % 60, seconds % 60} {
		text = append(text, " ::"[i])
		text = appendTwoDigits(text, part)
	}
	checkDate(t, days*86400+int64(seconds), string(append(text, " GMT"...)))
}

func appendTwoDigits(text []byte, n int) []byte {
	return append(text, '0'+byte(n/10), '0'+byte(n%10))
}

// Every byte in every place of some dates.
func TestEveryByteOfADate(t *testing.T) {
	firsts := calendar()
	for _, text := range []string{
		"Sun, 06 Nov 1994 08:49:37 GMT",
		"Thu, 01 Jan 1970 00:00:00 GMT",
		"Fri, 31 Dec 9999 23:59:59 GMT",
		"Tue, 29 Feb 2000 19:09:59 GMT",
		"Mon, 30 Jun 2036 20:00:10 GMT",
	} {
		checkDate(t, expectedSeconds(firsts, text), text)
		for i := range len(text) {
			for b := range 256 {
				checkParse(t, firsts, text[:i]+string([]byte{byte(b)})+text[i+1:])
			}
		}
	}
}

// All pairs of digits in each place.
func TestEveryPairOfDigits(t *testing.T) {
	firsts := calendar()
	for _, name := range weekNames() {
		for n := range 100 {
			for _, form := range []string{
				"%s, %02d Nov 1994 08:49:37 GMT", "%s, %02d Feb 2000 08:49:37 GMT", "%s, %02d Feb 2100 08:49:37 GMT", "%s, %02d Jun 1999 08:49:37 GMT",
				"%s, 06 Nov 19%02d 08:49:37 GMT", "%s, 29 Feb 20%02d 08:49:37 GMT", "%s, 29 Feb %02d00 08:49:37 GMT", "%s, 28 Feb %02d00 00:00:00 GMT",
				"%s, 06 Nov 1994 %02d:49:37 GMT", "%s, 06 Nov 1994 08:%02d:37 GMT", "%s, 06 Nov 1994 08:49:%02d GMT", "%s, 01 Jan 1970 %02d:59:59 GMT",
			} {
				checkParse(t, firsts, fmt.Sprintf(form, name, n))
			}
		}
	}
}

func TestEveryYear(t *testing.T) {
	firsts := calendar()
	for year := range 10000 {
		for _, name := range weekNames() {
			checkParse(t, firsts, fmt.Sprintf("%s, 01 Jan %04d 00:00:00 GMT", name, year))
			checkParse(t, firsts, fmt.Sprintf("%s, 29 Feb %04d 23:59:59 GMT", name, year))
		}
	}
}

// All days from some years before the first one to some after the last one, also such
// that do not exist.
func TestDaysOfAllSmallNumbers(t *testing.T) {
	firsts := calendar()
	var years []int
	for i := range 40 {
		years = append(years, i-20, 1960+i, 1990+i, 2090+i, 9980+i)
	}
	for _, year := range years {
		for month := -2; month <= 26; month++ {
			for day := -2; day <= 40; day++ {
				checkDays(t, year, month, day, expectedDays(firsts, year, month, day))
			}
		}
	}
}

func oneOf(random *rand.Rand, l []string) string {
	return l[random.Intn(len(l))]
}

// randomDigits returns these digits, or sometimes others.
func randomDigits(random *rand.Rand, width, n int) string {
	switch random.Intn(30) {
	case 0:
		return fmt.Sprintf("%d", n)
	case 1:
		return fmt.Sprintf("%*d", width, n)
	case 2:
		return fmt.Sprintf("%0*d", width, random.Intn(100))
	case 3:
		return fmt.Sprintf("%+0*d", width, n)
	}
	return fmt.Sprintf("%0*d", width, n)
}

// randomText returns a text that often is a date, but for the name of the day.
func randomText(random *rand.Rand) string {
	text := ", " + randomDigits(random, 2, random.Intn(33)) + " " + oneOf(random, monthNames()) + " " + randomDigits(random, 4, 1960+random.Intn(8050)) + " "
	text += randomDigits(random, 2, random.Intn(25)) + ":" + randomDigits(random, 2, random.Intn(61)) + ":" + randomDigits(random, 2, random.Intn(61)) + " GMT"
	if random.Intn(3) > 0 {
		return text
	}
	const others = ", :0123456789GMTJanFebpr\x00\xff"
	bytes := []byte(text)
	for range random.Intn(3) {
		bytes[random.Intn(len(bytes))] = others[random.Intn(len(others))]
	}
	return string(bytes)
}

func TestRandomTexts(t *testing.T) {
	random := rand.New(rand.NewSource(20))
	firsts := calendar()
	found := 0
	for range 50000 {
		text := randomText(random)
		for _, name := range weekNames() {
			checkParse(t, firsts, name+text)
			if expectedSeconds(firsts, name+text) >= 0 {
				found++
			}
		}
		if t.Failed() {
			return
		}
	}
	if found < 10000 {
		t.Errorf("only %d of the texts are dates", found)
	}
}

// What Format writes of a number is read as this number.
func TestRandomNumbers(t *testing.T) {
	random := rand.New(rand.NewSource(201))
	firsts := calendar()
	for range 100000 {
		seconds := random.Int63n(253402300800)
		text := date.Format(seconds)
		if got := expectedSeconds(firsts, text); got != seconds {
			t.Errorf("Format(%d) = %q, the date of %d", seconds, text, got)
		}
		checkDate(t, seconds, text)
		checkNoText(t, -1-seconds, 253402300800+seconds, -1-random.Int63(), 253402300800+random.Int63n(1<<62))
	}
}
