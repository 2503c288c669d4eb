package date_test

import (
	"fmt"
	"math"
	"strings"
	"testing"

	"variantproxy/date"
)

// checkDays expects this number of days.
func checkDays(t *testing.T, year, month, day int, want int64) {
	t.Helper()
	if got := date.Days(year, month, day); got != want {
		t.Errorf("Days(%d, %d, %d) = %d, not %d", year, month, day, got, want)
	}
}

// checkNoDay expects that these days do not exist.
func checkNoDay(t *testing.T, days ...[3]int) {
	t.Helper()
	for _, d := range days {
		checkDays(t, d[0], d[1], d[2], -1)
	}
}

// checkDate expects that each of the two is what the other is read or written as.
func checkDate(t *testing.T, seconds int64, text string) {
	t.Helper()
	if got, ok := date.Parse(text); got != seconds || !ok {
		t.Errorf("Parse(%q) = %d, %v, not %d", text, got, ok, seconds)
	}
	if got := date.Format(seconds); got != text {
		t.Errorf("Format(%d) = %q, not %q", seconds, got, text)
	}
}

// checkNoDate expects that none of the texts is a date.
func checkNoDate(t *testing.T, texts ...string) {
	t.Helper()
	for _, s := range texts {
		if got, ok := date.Parse(s); got != 0 || ok {
			t.Errorf("Parse(%.100q) = %d, %v", s, got, ok)
		}
	}
}

// checkNoText expects that none of the numbers has a date.
func checkNoText(t *testing.T, numbers ...int64) {
	t.Helper()
	for _, seconds := range numbers {
		if got := date.Format(seconds); got != "" {
			t.Errorf("Format(%d) = %q", seconds, got)
		}
	}
}

// Promise 20.1, Days

func TestDays(t *testing.T) {
	for _, q := range []struct {
		year, month, day int
		want             int64
	}{
		{1970, 1, 1, 0},
		{1970, 1, 2, 1},
		{1970, 1, 31, 30},
		{1970, 2, 1, 31},
		{1970, 2, 28, 58},
		{1970, 3, 1, 59},
		{1970, 12, 31, 364},
		{1971, 1, 1, 365},
		{1972, 2, 29, 789},
		{1972, 3, 1, 790},
		{1972, 12, 31, 1095},
		{1973, 1, 1, 1096},
		{1994, 11, 6, 9075},
		{2000, 2, 29, 11016},
		{2000, 3, 1, 11017},
		{2026, 11, 20, 20777},
		{2038, 1, 19, 24855},
		{2100, 2, 28, 47540},
		{2100, 3, 1, 47541},
		{2400, 2, 29, 157113},
		{9999, 12, 31, 2932896},
	} {
		checkDays(t, q.year, q.month, q.day, q.want)
	}
}

func TestDaysOfEveryMonth(t *testing.T) {
	want := int64(0)
	for i, length := range []int{31, 28, 31, 30, 31, 30, 31, 31, 30, 31, 30, 31} {
		checkNoDay(t, [3]int{1970, i + 1, 0}, [3]int{1970, i + 1, length + 1})
		for day := 1; day <= length; day++ {
			checkDays(t, 1970, i+1, day, want)
			want++
		}
	}
}

func TestDaysOfLeapYears(t *testing.T) {
	for _, year := range []int{1972, 1976, 1996, 2000, 2004, 2096, 2104, 2396, 2400, 2800, 4000, 8000, 9600, 9996} {
		checkDays(t, year, 2, 29, date.Days(year, 2, 28)+1)
		checkDays(t, year, 3, 1, date.Days(year, 2, 28)+2)
		checkNoDay(t, [3]int{year, 2, 30})
	}
	for _, year := range []int{1970, 1971, 1973, 1974, 1999, 2001, 2100, 2200, 2300, 2500, 3000, 5000, 9000, 9900, 9999} {
		checkDays(t, year, 3, 1, date.Days(year, 2, 28)+1)
		checkNoDay(t, [3]int{year, 2, 29}, [3]int{year, 2, 30})
	}
}

func TestDaysOfNoDay(t *testing.T) {
	checkNoDay(t,
		// The year is from 1970 to 9999.
		[3]int{1969, 12, 31}, [3]int{1969, 1, 1}, [3]int{1968, 2, 29}, [3]int{1600, 1, 1}, [3]int{1, 1, 1}, [3]int{0, 1, 1}, [3]int{-1, 1, 1}, [3]int{-1970, 1, 1},
		[3]int{10000, 1, 1}, [3]int{10000, 2, 29}, [3]int{19700, 1, 1}, [3]int{70, 1, 1}, [3]int{94, 11, 6},
		// The month is from 1 to 12.
		[3]int{1970, 0, 1}, [3]int{1970, 13, 1}, [3]int{1970, -1, 1}, [3]int{1971, 0, 31}, [3]int{1994, 14, 1}, [3]int{9999, 13, 1}, [3]int{2000, 24, 1},
		// The month has the day.
		[3]int{1970, 1, 0}, [3]int{1970, 1, -1}, [3]int{1970, 1, 32}, [3]int{1970, 3, 0}, [3]int{1994, 11, 31}, [3]int{9999, 12, 32}, [3]int{1970, 1, 100}, [3]int{1970, 1, 365},
		[3]int{0, 0, 0}, [3]int{-1, -1, -1},
	)
}

func TestDaysOfExtremeNumbers(t *testing.T) {
	extremes := []int{math.MinInt, math.MinInt + 1, math.MinInt32, -1, 0, math.MaxInt32, math.MaxInt - 1, math.MaxInt}
	for _, a := range extremes {
		checkNoDay(t, [3]int{a, 1, 1}, [3]int{2000, a, 1}, [3]int{2000, 1, a})
		for _, b := range extremes {
			checkNoDay(t, [3]int{a, b, 1}, [3]int{a, 1, b}, [3]int{2000, a, b})
			for _, c := range extremes {
				checkNoDay(t, [3]int{a, b, c})
			}
		}
	}
}

// Promises 20.2 and 20.3, Parse and Format

func TestDates(t *testing.T) {
	for text, seconds := range map[string]int64{
		"Sun, 06 Nov 1994 08:49:37 GMT": 784111777,
		"Thu, 01 Jan 1970 00:00:00 GMT": 0,
		"Thu, 01 Jan 1970 00:00:01 GMT": 1,
		"Thu, 01 Jan 1970 00:00:59 GMT": 59,
		"Thu, 01 Jan 1970 00:01:00 GMT": 60,
		"Thu, 01 Jan 1970 00:59:59 GMT": 3599,
		"Thu, 01 Jan 1970 01:00:00 GMT": 3600,
		"Thu, 01 Jan 1970 09:10:11 GMT": 33011,
		"Thu, 01 Jan 1970 23:59:59 GMT": 86399,
		"Fri, 02 Jan 1970 00:00:00 GMT": 86400,
		"Tue, 29 Feb 2000 00:00:00 GMT": 951782400,
		"Sun, 09 Sep 2001 01:46:40 GMT": 1000000000,
		"Fri, 13 Feb 2009 23:31:30 GMT": 1234567890,
		"Tue, 19 Jan 2038 03:14:07 GMT": math.MaxInt32,
		"Tue, 19 Jan 2038 03:14:08 GMT": math.MaxInt32 + 1,
		"Sun, 07 Feb 2106 06:28:15 GMT": math.MaxUint32,
		"Sun, 07 Feb 2106 06:28:16 GMT": math.MaxUint32 + 1,
		"Sun, 28 Feb 2100 23:59:59 GMT": 4107542399,
		"Mon, 01 Mar 2100 00:00:00 GMT": 4107542400,
		"Fri, 31 Dec 9999 23:59:59 GMT": 253402300799,
	} {
		checkDate(t, seconds, text)
	}
}

// Each name of a day and of a month, and each name of a month in each of its lengths.
func TestNames(t *testing.T) {
	for text, seconds := range map[string]int64{
		"Mon, 05 Jan 1970 00:00:00 GMT": 4 * 86400,
		"Tue, 06 Jan 1970 00:00:00 GMT": 5 * 86400,
		"Wed, 07 Jan 1970 00:00:00 GMT": 6 * 86400,
		"Thu, 08 Jan 1970 00:00:00 GMT": 7 * 86400,
		"Fri, 09 Jan 1970 00:00:00 GMT": 8 * 86400,
		"Sat, 10 Jan 1970 00:00:00 GMT": 9 * 86400,
		"Sun, 11 Jan 1970 00:00:00 GMT": 10 * 86400,
		"Sat, 31 Jan 1970 12:00:00 GMT": 30*86400 + 43200,
		"Sat, 28 Feb 1970 12:00:00 GMT": 58*86400 + 43200,
		"Tue, 31 Mar 1970 12:00:00 GMT": 89*86400 + 43200,
		"Thu, 30 Apr 1970 12:00:00 GMT": 119*86400 + 43200,
		"Sun, 31 May 1970 12:00:00 GMT": 150*86400 + 43200,
		"Tue, 30 Jun 1970 12:00:00 GMT": 180*86400 + 43200,
		"Fri, 31 Jul 1970 12:00:00 GMT": 211*86400 + 43200,
		"Mon, 31 Aug 1970 12:00:00 GMT": 242*86400 + 43200,
		"Wed, 30 Sep 1970 12:00:00 GMT": 272*86400 + 43200,
		"Sat, 31 Oct 1970 12:00:00 GMT": 303*86400 + 43200,
		"Mon, 30 Nov 1970 12:00:00 GMT": 333*86400 + 43200,
		"Thu, 31 Dec 1970 12:00:00 GMT": 364*86400 + 43200,
		"Tue, 29 Feb 1972 12:00:00 GMT": 789*86400 + 43200,
	} {
		checkDate(t, seconds, text)
	}
}

func TestEverySecondOfADay(t *testing.T) {
	const midnight = 784080000
	for seconds := range 86400 {
		text := fmt.Sprintf("Sun, 06 Nov 1994 %02d:%02d:%02d GMT", seconds/3600, seconds/60%60, seconds%60)
		checkDate(t, midnight+int64(seconds), text)
	}
}

func TestParseOfNoDay(t *testing.T) {
	checkNoDate(t,
		// The month has the day.
		"Wed, 00 Jan 1970 00:00:00 GMT", "Sun, 32 Jan 1970 00:00:00 GMT", "Sun, 00 Feb 1970 00:00:00 GMT",
		"Thu, 29 Feb 2001 00:00:00 GMT", "Mon, 29 Feb 2100 00:00:00 GMT", "Wed, 30 Feb 2000 00:00:00 GMT",
		"Fri, 31 Apr 1970 00:00:00 GMT", "Thu, 31 Nov 1994 00:00:00 GMT", "Sat, 32 Dec 9999 00:00:00 GMT", "Sun, 99 Nov 1994 08:49:37 GMT",
		// The year is from 1970 to 9999.
		"Wed, 31 Dec 1969 23:59:59 GMT", "Wed, 31 Dec 1969 00:00:00 GMT", "Thu, 29 Feb 1968 00:00:00 GMT", "Sun, 06 Nov 0094 08:49:37 GMT",
		"Sat, 01 Jan 0000 00:00:00 GMT", "Mon, 01 Jan 0001 00:00:00 GMT", "Mon, 01 Jan 1900 00:00:00 GMT",
		"Sat, 01 Jan 10000 00:00:00 GMT", "Sun, 06 Nov 01994 08:49:37 GMT", "Sun, 06 Nov 994 08:49:37 GMT",
		// No hour of the day before the first one leads into it.
		"Wed, 31 Dec 1969 24:00:00 GMT", "Thu, 00 Jan 1970 24:00:00 GMT", "Thu, 01 XXX 1970 24:00:00 GMT", "Thu, 01 Jan 1969 24:00:00 GMT",
	)
}

func TestParseOfNoTime(t *testing.T) {
	checkNoDate(t,
		"Sun, 06 Nov 1994 24:00:00 GMT", "Sun, 06 Nov 1994 24:49:37 GMT", "Sun, 06 Nov 1994 25:00:00 GMT", "Sun, 06 Nov 1994 99:49:37 GMT",
		"Sun, 06 Nov 1994 08:60:00 GMT", "Sun, 06 Nov 1994 08:60:37 GMT", "Sun, 06 Nov 1994 08:99:37 GMT",
		// A leap second is none.
		"Sun, 06 Nov 1994 08:49:60 GMT", "Sun, 06 Nov 1994 08:49:61 GMT", "Sun, 06 Nov 1994 08:49:99 GMT",
		"Fri, 30 Jun 1972 23:59:60 GMT", "Sat, 31 Dec 2016 23:59:60 GMT", "Fri, 31 Dec 9999 23:59:60 GMT", "Fri, 31 Dec 9999 24:00:00 GMT",
		// The day that begins where these times would lead has another name.
		"Mon, 06 Nov 1994 24:00:00 GMT", "Mon, 07 Nov 1994 24:00:00 GMT",
	)
}

func TestParseOfWrongNames(t *testing.T) {
	const end = ", 06 Nov 1994 08:49:37 GMT"
	for _, name := range []string{"Mon", "Tue", "Wed", "Thu", "Fri", "Sat", "sun", "SUN", "SuN", "Su.", "Son", "Sunday", "Su", "S", "", "   ", "Sup", "un", "Sun,"} {
		checkNoDate(t, name+end)
	}
	// In February and March of 1994, too, the sixth day was a Sunday.
	for _, name := range []string{
		"Jan", "Apr", "May", "Jun", "Jul", "Aug", "Sep", "Oct", "Dec",
		"nov", "NOV", "noV", "NoV", "November", "Nov.", "No", "", "   ", "11", "011", "Nop", "Mov", "N\u00f6v", "XXX", "\x00\x00\x00",
	} {
		checkNoDate(t, "Sun, 06 "+name+" 1994 08:49:37 GMT")
	}
}

// The name of the day is right for each date, and wrong if it is any other.
func TestParseOfOtherDaysOfTheWeek(t *testing.T) {
	names := []string{"Thu", "Fri", "Sat", "Sun", "Mon", "Tue", "Wed"}
	for day := range 31 {
		for i, name := range names {
			text := fmt.Sprintf("%s, %02d Jan 1970 12:34:56 GMT", name, day+1)
			if day%7 == i {
				checkDate(t, int64(day)*86400+45296, text)
			} else {
				checkNoDate(t, text)
			}
		}
	}
}

func TestParseOfOtherForms(t *testing.T) {
	checkNoDate(t,
		"", " ", "0", "-1", "784111777", "GMT", "Sun", "Sun, 06 Nov 1994",
		// The two older forms of dates.
		"Sunday, 06-Nov-94 08:49:37 GMT", "Sun Nov  6 08:49:37 1994",
		// Other zones, and none.
		"Sun, 06 Nov 1994 08:49:37 UTC", "Sun, 06 Nov 1994 08:49:37 gmt", "Sun, 06 Nov 1994 08:49:37 Gmt", "Sun, 06 Nov 1994 08:49:37 +0000",
		"Sun, 06 Nov 1994 08:49:37 CET", "Sun, 06 Nov 1994 08:49:37 Z", "Sun, 06 Nov 1994 08:49:37", "Sun, 06 Nov 1994 08:49:37 ", "Sun, 06 Nov 1994 08:49:37    ",
		// Other separators.
		"Sun 06 Nov 1994 08:49:37 GMT", "Sun,06 Nov 1994 08:49:37 GMT", "Sun,  06 Nov 1994 08:49:37 GMT", "Sun, 06  Nov 1994 08:49:37 GMT", "Sun,\t06 Nov 1994 08:49:37 GMT",
		"Sun; 06 Nov 1994 08:49:37 GMT", "Sun  06 Nov 1994 08:49:37 GMT", "Sun,\x0006 Nov 1994 08:49:37 GMT", "Sun, 06-Nov-1994 08:49:37 GMT", "Sun, 06 Nov-1994 08:49:37 GMT",
		"Sun, 06Nov1994 08:49:37 GMT", "Sun, 06 Nov 1994T08:49:37 GMT", "Sun, 06 Nov 1994 08.49.37 GMT", "Sun, 06 Nov 1994 08:49.37 GMT", "Sun, 06 Nov 1994 084937 GMT",
		"Sun, 06 Nov 1994, 08:49:37 GMT", "Sun, 06 Nov 1994 08:49:37GMT", "Sun, 06 Nov 1994 08:49:37-GMT", "Sun, 06 Nov 1994 08 49 37 GMT", "Sun, 06 Nov 1994  08:49:37 GMT",
		// Other numbers of digits.
		"Sun, 6 Nov 1994 08:49:37 GMT", "Sun,  6 Nov 1994 08:49:37 GMT", "Sun, 006 Nov 1994 08:49:37 GMT", "Sun, 06 Nov 94 08:49:37 GMT", "Sun, 06 Nov 19940 08:49:37 GMT",
		"Sun, 06 Nov 1994 8:49:37 GMT", "Sun, 06 Nov 1994  8:49:37 GMT", "Sun, 06 Nov 1994 008:49:37 GMT", "Sun, 06 Nov 1994 08:49 GMT", "Sun, 06 Nov 1994 08:49:7 GMT",
		"Sun, 06 Nov 1994 08:49:037 GMT", "Sun, 06 Nov 1994 08:9:37 GMT", "Sun, 06 Nov 1994 08:49:37.0 GMT", "Thu, 1 Jan 1970 00:00:000 GMT", "Thu, 001 Jan 1970 0:00:00 GMT",
		// No digits.
		"Sun, +6 Nov 1994 08:49:37 GMT", "Sun, -6 Nov 1994 08:49:37 GMT", "Sun, 6. Nov 1994 08:49:37 GMT", "Sun, 06 Nov +994 08:49:37 GMT", "Sun, 06 Nov 1994 +8:49:37 GMT",
		"Thu, 01 Jan 1970 -0:00:00 GMT", "Thu, 01 Jan 1970 00:+0:00 GMT", "Thu, 01 Jan 1970 00:00:0  GMT", "Thu, 01 Jan 1970 00:00:   GMT", "Thu, 01 Jan 1970 00:00:xx GMT",
		"Thu, 01 Jan 1970 00:00:0x GMT", "Thu, 01 Jan 1970 ab:cd:ef GMT", "Thu, 01 Jan 1970 \x00\x00:00:00 GMT", "Thu, 01 Jan 1970 \uff10:00:00 GMT", "Thu, 01 Jan 1_70 00:00:00 GMT",
		// Something around a date.
		" Sun, 06 Nov 1994 08:49:37 GMT", "Sun, 06 Nov 1994 08:49:37 GMT ", "\tSun, 06 Nov 1994 08:49:37 GMT", "Sun, 06 Nov 1994 08:49:37 GMT\r\n", "\"Sun, 06 Nov 1994 08:49:37 GMT\"",
		"Sun, 06 Nov 1994 08:49:37 GMT\x00", "Sun, 06 Nov 1994 08:49:37 GMT, Sun, 06 Nov 1994 08:49:37 GMT",
	)
}

func TestParseOfPartsOfADate(t *testing.T) {
	const text = "Sun, 06 Nov 1994 08:49:37 GMT"
	for i := range len(text) {
		checkNoDate(t, text[:i], text[i+1:], text[:i]+text[i+1:])
		for b := range 256 {
			checkNoDate(t, text[:i]+string([]byte{byte(b)})+text[i:])
		}
	}
	for b := range 256 {
		checkNoDate(t, text+string([]byte{byte(b)}))
	}
}

func TestParseOfLongTexts(t *testing.T) {
	const text = "Sun, 06 Nov 1994 08:49:37 GMT"
	checkNoDate(t, strings.Repeat(text, 30000), text+strings.Repeat(" ", 1000000), strings.Repeat(" ", 1000000)+text, strings.Repeat("0", 1000000), "Sun, 06 Nov 1994 08:49:"+strings.Repeat("0", 1000000)+"37 GMT")
}

func TestFormatOfNoDate(t *testing.T) {
	checkNoText(t, -1, -2, -60, -86400, -784111777, 253402300800, 253402300801, 253402387199, 253402387200, 253433836800, math.MinInt32, math.MinInt64, math.MinInt64+1, math.MaxInt64-1, math.MaxInt64)
	// Numbers whose lower parts would have a date.
	checkNoText(t, 1<<38, 1<<40, 1<<48+784111777, 1<<62, -1<<32, -1<<32+784111777, math.MinInt64+784111777)
}

func TestResultsDoNotDependOnEarlierCalls(t *testing.T) {
	for range 3 {
		checkDate(t, 784111777, "Sun, 06 Nov 1994 08:49:37 GMT")
		checkNoDate(t, "Mon, 06 Nov 1994 08:49:37 GMT")
		checkNoText(t, -1, 253402300800)
		checkDays(t, 1994, 11, 6, 9075)
		checkNoDay(t, [3]int{1994, 11, 31})
	}
}
