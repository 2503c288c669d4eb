package freshness_test

import (
	"fmt"
	"math"
	"slices"
	"strings"
	"testing"

	"variantproxy/api"
	"variantproxy/freshness"
)

const most = 2147483647

// fields returns the fields that the lines hold, of which the value is kept as it
// stands behind the colon and a space.
func fields(lines ...string) []api.Field {
	var l []api.Field
	for _, line := range lines {
		name, value, _ := strings.Cut(line, ": ")
		l = append(l, api.Field{Name: name, Value: value})
	}
	return l
}

// shortened returns the beginning of the text of a list.
func shortened(l []api.Field) string {
	return fmt.Sprintf("%.300q", fmt.Sprint(l[:min(len(l), 20)]))
}

// checkUnchanged expects that a function has not changed its argument.
func checkUnchanged(t *testing.T, name string, l, before []api.Field) {
	t.Helper()
	if !slices.Equal(l, before) {
		t.Errorf("%s has changed its argument to %s", name, shortened(l))
	}
}

func checkLifetime(t *testing.T, l []api.Field, want int) {
	t.Helper()
	before := slices.Clone(l)
	if got := freshness.Lifetime(l); got != want {
		t.Errorf("Lifetime(%s) = %d, not %d", shortened(l), got, want)
	}
	checkUnchanged(t, "Lifetime", l, before)
}

func checkDate(t *testing.T, l []api.Field, received, want int64) {
	t.Helper()
	before := slices.Clone(l)
	if got := freshness.Date(l, received); got != want {
		t.Errorf("Date(%s, %d) = %d, not %d", shortened(l), received, got, want)
	}
	checkUnchanged(t, "Date", l, before)
}

// times says when a response was requested and received, and what time it is now.
type times struct {
	requested, received, now int64
}

func checkAge(t *testing.T, l []api.Field, at times, want int) {
	t.Helper()
	before := slices.Clone(l)
	if got := freshness.Age(l, at.requested, at.received, at.now); got != want {
		t.Errorf("Age(%s, %d, %d, %d) = %d, not %d", shortened(l), at.requested, at.received, at.now, got, want)
	}
	checkUnchanged(t, "Age", l, before)
}

// A known date is one whose seconds are written out.
type known struct {
	text    string
	seconds int64
}

func knownDates() []known {
	return []known{
		{"Thu, 01 Jan 1970 00:00:00 GMT", 0},
		{"Thu, 01 Jan 1970 00:00:01 GMT", 1},
		{"Sun, 06 Nov 1994 08:49:36 GMT", 784111776},
		{"Sun, 06 Nov 1994 08:49:37 GMT", 784111777},
		{"Sun, 06 Nov 1994 08:50:37 GMT", 784111837},
		{"Tue, 29 Feb 2000 00:00:00 GMT", 951782400},
		{"Tue, 19 Jan 2038 03:14:06 GMT", 2147483646},
		{"Tue, 19 Jan 2038 03:14:07 GMT", 2147483647},
		{"Tue, 19 Jan 2038 03:14:08 GMT", 2147483648},
		{"Sun, 07 Feb 2106 06:28:15 GMT", 4294967295},
		{"Sun, 07 Feb 2106 06:28:16 GMT", 4294967296},
		{"Sun, 07 Feb 2106 06:28:21 GMT", 4294967301},
		{"Fri, 31 Dec 9999 23:59:58 GMT", 253402300798},
		{"Fri, 31 Dec 9999 23:59:59 GMT", 253402300799},
	}
}

// noDates returns texts that are no dates.
func noDates() []string {
	return []string{
		"", "0", "-1", "784111777", "x", "GMT", "Date", "Expires", "no-store", "max-age=60",
		"Mon, 06 Nov 1994 08:49:37 GMT", "sun, 06 Nov 1994 08:49:37 GMT", "Sun, 06 NOV 1994 08:49:37 GMT", "Sun, 06 Nov 1994 08:49:37 gmt", "Sun, 06 Nov 1994 08:49:37 UTC",
		"Sun, 6 Nov 1994 08:49:37 GMT", "Sun, 06 Nov 94 08:49:37 GMT", "Sun, 06 Nov 1994 24:00:00 GMT", "Sun, 06 Nov 1994 08:60:37 GMT", "Sun, 06 Nov 1994 08:49:60 GMT",
		"Sunday, 06-Nov-94 08:49:37 GMT", "Sun Nov  6 08:49:37 1994", "Wed, 31 Dec 1969 23:59:59 GMT", "Sat, 01 Jan 10000 00:00:00 GMT", "Thu, 30 Feb 2000 00:00:00 GMT",
		" Sun, 06 Nov 1994 08:49:37 GMT", "Sun, 06 Nov 1994 08:49:37 GMT ", "\tSun, 06 Nov 1994 08:49:37 GMT", `"Sun, 06 Nov 1994 08:49:37 GMT"`, "Sun, 06 Nov 1994 08:49:37 GMT, Sun, 06 Nov 1994 08:49:37 GMT",
	}
}

// Promise 23.1, directives

func TestLifetimeOfDirectives(t *testing.T) {
	for value, want := range map[string]int{
		"max-age=60":                           60,
		"MAX-AGE=60":                           60,
		`max-age="60"`:                         60,
		"s-maxage=60":                          60,
		"S-MaxAge=60":                          60,
		"max-age=0":                            0,
		"max-age=1":                            1,
		"s-maxage=1":                           1,
		"max-age=007":                          7,
		"max-age=2147483646":                   most - 1,
		"max-age=2147483647":                   most,
		"max-age=2147483648":                   most,
		"max-age=4294967301":                   most,
		"max-age=99999999999999999999":         most,
		"s-maxage=2147483646":                  most - 1,
		"s-maxage=99999999999999999999":        most,
		"s-maxage=5, max-age=60":               5,
		"max-age=60, s-maxage=5":               5,
		"max-age=5, s-maxage=60":               60,
		"s-maxage=0, max-age=60":               0,
		"max-age=60, s-maxage=0":               0,
		"max-age=60, s-maxage":                 0,
		"max-age=60, s-maxage=x":               0,
		"max-age=60, s-maxage=-1":              0,
		"max-age=60, max-age=5":                60,
		"max-age=x, max-age=5":                 0,
		"s-maxage=60, s-maxage=5, max-age=7":   60,
		"max-age":                              0,
		"max-age=":                             0,
		"max-age=-1":                           0,
		"max-age = 60":                         0,
		"private, max-age=60":                  60,
		"no-store, no-cache, max-age=60":       60,
		"must-revalidate, max-age=60, public":  60,
		"max-stale=5, min-fresh=7, max-age=60": 60,
		"max-stale=5, min-fresh=7":             0,
		"x-max-age=60, max-agex=60, age=60":    0,
		`x=", max-age=5", max-age=60`:          60,
	} {
		checkLifetime(t, fields("Cache-Control: "+value), want)
		checkLifetime(t, fields("Age: 7", "cache-control: "+value, "Pragma: no-cache"), want)
		checkLifetime(t, fields("Cache-Control: "+strings.ReplaceAll(value, ",", ",,"), "Cache-Control: x"), want)
	}
}

// A directive with a number goes before the dates, whatever its number is.
func TestLifetimeOfDirectivesBesideDates(t *testing.T) {
	dates := fields("Expires: Sun, 06 Nov 1994 08:50:37 GMT", "Date: Sun, 06 Nov 1994 08:49:37 GMT")
	checkLifetime(t, dates, 60)
	for value, want := range map[string]int{
		"max-age=5": 5, "max-age=600": 600, "max-age=0": 0, "max-age": 0, "max-age=x": 0, "max-age=-1": 0, "max-age=2147483648": most,
		"s-maxage=5": 5, "s-maxage=600": 600, "s-maxage=0": 0, "s-maxage": 0, "s-maxage=x": 0, "s-maxage=5, max-age=7": 5, "s-maxage=0, max-age=7": 0,
		"": 60, "x": 60, "no-cache, no-store, must-revalidate, proxy-revalidate, private, public, only-if-cached": 60, "min-fresh=5, max-stale=7": 60, "max-stale": 60, `"max-age=5"`: 60, "max-age5": 60, "maxage=5": 60,
	} {
		l := fields("Cache-Control: " + value)
		checkLifetime(t, append(slices.Clone(l), dates...), want)
		checkLifetime(t, append(slices.Clone(dates), l...), want)
	}
	for _, name := range []string{"", "Cache", "Pragma", "Age", "X-Cache-Control", "Cache-Control ", "Surrogate-Control"} {
		checkLifetime(t, append([]api.Field{{Name: name, Value: "max-age=5, s-maxage=7"}}, dates...), 60)
	}
}

// The directives of several fields count together, as far as they are looked at.
func TestLifetimeOfSeveralFields(t *testing.T) {
	checkLifetime(t, fields("Cache-Control: max-age=60", "cache-control: max-age=5"), 60)
	checkLifetime(t, fields("Cache-Control: max-age=60", "Host: a", "CACHE-CONTROL: s-maxage=5"), 5)
	checkLifetime(t, fields("Cache-Control: ", "Cache-Control: max-age=60"), 60)
	checkLifetime(t, append(slices.Repeat(fields("Cache-Control: x"), api.MaxMembers-1), fields("Cache-Control: max-age=60")...), 60)
	checkLifetime(t, append(slices.Repeat(fields("Cache-Control: x"), api.MaxMembers), fields("Cache-Control: max-age=60")...), 0)
	checkLifetime(t, fields("Cache-Control: max-age=60"+strings.Repeat(",x", 1000)+",s-maxage=5"), 60)
}

// Promise 23.1, dates

func TestLifetimeOfKnownDates(t *testing.T) {
	for _, expires := range knownDates() {
		for _, sent := range knownDates() {
			want := 0
			if difference := expires.seconds - sent.seconds; difference > math.MaxInt32 {
				want = most
			} else if difference > 0 {
				want = int(difference)
			}
			checkLifetime(t, fields("Expires: "+expires.text, "Date: "+sent.text), want)
			checkLifetime(t, fields("DATE: "+sent.text, "Last-Modified: "+knownDates()[4].text, "expires: "+expires.text, "Age: 5"), want)
		}
	}
}

func TestLifetimeOfDates(t *testing.T) {
	const sent = "Date: Sun, 06 Nov 1994 08:49:37 GMT"
	for text, want := range map[string]int{
		"Sun, 06 Nov 1994 08:49:36 GMT": 0,
		"Sun, 06 Nov 1994 08:49:37 GMT": 0,
		"Sun, 06 Nov 1994 08:49:38 GMT": 1,
		"Sun, 06 Nov 1994 08:50:37 GMT": 60,
		"Mon, 07 Nov 1994 08:49:37 GMT": 86400,
		"Mon, 06 Nov 1995 08:49:37 GMT": 31536000,
		"Thu, 01 Jan 1970 00:00:00 GMT": 0,
		// 2^31 - 2, 2^31 - 1, 2^31 and 2^32 + 60 seconds later.
		"Fri, 24 Nov 2062 12:03:43 GMT": most - 1,
		"Fri, 24 Nov 2062 12:03:44 GMT": most,
		"Fri, 24 Nov 2062 12:03:45 GMT": most,
		"Wed, 13 Dec 2130 15:18:53 GMT": most,
		"Fri, 31 Dec 9999 23:59:59 GMT": most,
	} {
		checkLifetime(t, fields("Expires: "+text, sent), want)
	}
}

// Without both dates, the lifetime is 0.
func TestLifetimeWithoutDates(t *testing.T) {
	const early, late = "Sun, 06 Nov 1994 08:49:37 GMT", "Sun, 06 Nov 1994 08:50:37 GMT"
	checkLifetime(t, nil, 0)
	checkLifetime(t, []api.Field{}, 0)
	checkLifetime(t, fields("Age: 60", "Last-Modified: "+early, `ETag: "a"`), 0)
	checkLifetime(t, fields("Expires: "+late), 0)
	checkLifetime(t, fields("Date: "+early), 0)
	checkLifetime(t, fields("Expires: "+late, "Last-Modified: "+early), 0)
	for _, text := range noDates() {
		checkLifetime(t, fields("Expires: "+text, "Date: "+early), 0)
		checkLifetime(t, fields("Expires: "+late, "Date: "+text), 0)
		checkLifetime(t, fields("Date: "+text, "Expires: "+text), 0)
		checkLifetime(t, fields("Cache-Control: max-age=60", "Date: "+text, "Expires: "+text), 60)
	}
	for _, name := range []string{"", "Dates", "Dat", "Date ", " Date", "X-Date", "D\u0430te", "Expires"} {
		checkLifetime(t, []api.Field{{Name: "Expires", Value: late}, {Name: name, Value: early}}, 0)
	}
	for _, name := range []string{"", "Expire", "Expiress", "Expires ", " Expires", "X-Expires", "E\u0445pires", "Expire\u017f", "Date"} {
		checkLifetime(t, []api.Field{{Name: "Date", Value: early}, {Name: name, Value: late}}, 0)
	}
}

// The first field with each name counts, also if it is no date.
func TestLifetimeOfFirstDates(t *testing.T) {
	const first, second, third = "Sun, 06 Nov 1994 08:49:37 GMT", "Sun, 06 Nov 1994 08:50:37 GMT", "Sun, 06 Nov 1994 08:59:37 GMT"
	checkLifetime(t, fields("Expires: "+second, "Expires: "+third, "Date: "+first, "Date: "+second), 60)
	checkLifetime(t, fields("Date: "+first, "EXPIRES: "+third, "date: "+second, "Expires: "+second), 600)
	checkLifetime(t, fields("Date: "+second, "Expires: "+third, "Date: "+first), 540)
	for _, text := range noDates() {
		checkLifetime(t, fields("Expires: "+text, "Expires: "+third, "Date: "+first), 0)
		checkLifetime(t, fields("date: "+text, "Date: "+first, "Expires: "+third), 0)
		checkLifetime(t, fields("Expires: "+second, "expires: "+text, "Date: "+first, "date: "+text), 60)
	}
}

// Promise 23.2, Date

func TestDate(t *testing.T) {
	for _, sent := range knownDates() {
		for _, received := range []int64{math.MinInt64, -1, 0, 1, 784111777, 1 << 40, math.MaxInt64} {
			checkDate(t, fields("Date: "+sent.text), received, sent.seconds)
			checkDate(t, fields("Expires: "+knownDates()[3].text, "dAtE: "+sent.text, "Age: 5"), received, sent.seconds)
			checkDate(t, fields("Expires: "+sent.text, "Last-Modified: "+sent.text), received, received)
		}
	}
}

// Without a date, the time counts at which the response was received, whatever it is.
func TestDateWithoutDate(t *testing.T) {
	for _, received := range []int64{math.MinInt64, math.MinInt32, -1, 0, 1, 60, math.MaxInt32, math.MaxUint32, 1 << 40, 1<<40 + 1, math.MaxInt64} {
		checkDate(t, nil, received, received)
		checkDate(t, []api.Field{}, received, received)
		for _, text := range noDates() {
			checkDate(t, fields("Date: "+text), received, received)
		}
		for _, name := range []string{"", "Dates", "Dat", "Date ", " Date", "X-Date", "D\u0430te", "Age", "Expires"} {
			checkDate(t, []api.Field{{Name: name, Value: "Sun, 06 Nov 1994 08:49:37 GMT"}}, received, received)
		}
	}
}

// The first field counts, also if it is no date.
func TestDateOfFirstField(t *testing.T) {
	const early, late = "Sun, 06 Nov 1994 08:49:37 GMT", "Sun, 06 Nov 1994 08:50:37 GMT"
	checkDate(t, fields("Date: "+early, "Date: "+late), 5, 784111777)
	checkDate(t, fields("date: "+late, "Host: a", "DATE: "+early), 5, 784111837)
	for _, text := range noDates() {
		checkDate(t, fields("Date: "+text, "Date: "+early), 5, 5)
		checkDate(t, fields("Host: a", "date: "+early, "Date: "+text), 5, 784111777)
	}
}

// Promise 23.2, Age

func TestAge(t *testing.T) {
	// The response was received 784111837, 60 seconds after the second of these dates.
	const same, early, late, old = "Date: Sun, 06 Nov 1994 08:50:37 GMT", "Date: Sun, 06 Nov 1994 08:49:37 GMT", "Date: Sun, 06 Nov 1994 08:50:38 GMT", "Date: Thu, 01 Jan 1970 00:00:00 GMT"
	at := func(exchange, resident int64) times {
		return times{784111837 - exchange, 784111837, 784111837 + resident}
	}
	for _, q := range []struct {
		l    []api.Field
		at   times
		want int
	}{
		{nil, at(0, 0), 0},
		{nil, at(0, 1), 1},
		{nil, at(0, 60), 60},
		{nil, at(5, 0), 5},
		{nil, at(5, 60), 65},
		{fields("Age: 10"), at(0, 0), 10},
		{fields("Age: 10"), at(5, 0), 15},
		{fields("Age: 10"), at(5, 60), 75},
		{fields("Age: 0"), at(5, 60), 65},
		{fields("age: 007"), at(5, 60), 72},
		{fields(same), at(0, 0), 0},
		{fields(same), at(5, 7), 12},
		{fields(early), at(0, 0), 60},
		{fields(early), at(5, 0), 60},
		{fields(early), at(5, 7), 67},
		{fields(early), at(59, 7), 67},
		{fields(early), at(60, 7), 67},
		{fields(early), at(61, 7), 68},
		{fields(early, "Age: 54"), at(5, 7), 67},
		{fields(early, "Age: 55"), at(5, 7), 67},
		{fields("Age: 56", early), at(5, 7), 68},
		{fields("Age: 600", early), at(5, 7), 612},
		{fields(late), at(0, 0), 0},
		{fields(late), at(5, 7), 12},
		{fields(late, "Age: 3"), at(5, 7), 15},
		{fields("Date: Fri, 31 Dec 9999 23:59:59 GMT"), at(0, 0), 0},
		{fields("Date: Fri, 31 Dec 9999 23:59:59 GMT"), at(5, 7), 12},
		{fields("Date: Fri, 31 Dec 9999 23:59:59 GMT", "Age: 3"), at(5, 7), 15},
		{fields(old), at(5, 0), 784111837},
		{fields(old, "Age: 784111833"), at(5, 7), 784111845},
		{fields("Date: x"), at(5, 7), 12},
		{fields("Date: x", early), at(5, 7), 12},
		{fields(early, "Date: x", old), at(5, 7), 67},
		{fields("Expires: Thu, 01 Jan 1970 00:00:00 GMT", "Cache-Control: max-age=5, no-cache, s-maxage=7"), at(5, 7), 12},
		{fields("Last-Modified: Thu, 01 Jan 1970 00:00:00 GMT"), at(5, 7), 12},
	} {
		checkAge(t, q.l, q.at, q.want)
	}
}

// An Age that is no number is like none.
func TestAgeOfOtherAges(t *testing.T) {
	at := times{100, 105, 112}
	for _, text := range []string{"", "x", "-1", "-5", "+5", "5.0", "5x", "x5", "5 ", " 5", "\t5", "5, 6", `"5"`, "0x5", "1e3", "5_0", "\u0665", "\x00", "5\x00", "Sun, 06 Nov 1994 08:49:37 GMT"} {
		checkAge(t, []api.Field{{Name: "Age", Value: text}}, at, 12)
		checkAge(t, []api.Field{{Name: "Age", Value: text}, {Name: "Age", Value: "6"}}, at, 12)
		checkAge(t, []api.Field{{Name: "aGe", Value: "6"}, {Name: "Age", Value: text}}, at, 18)
	}
	for _, name := range []string{"", "Ages", "Ag", "Age ", " Age", "X-Age", "\u0410ge", "Max-Age", "Date"} {
		checkAge(t, []api.Field{{Name: name, Value: "6"}}, at, 12)
		checkAge(t, []api.Field{{Name: name, Value: "6"}, {Name: "AGE", Value: "3"}}, at, 15)
	}
	checkAge(t, fields("Age: 6", "Age: 600"), at, 18)
	checkAge(t, fields("Age: 6", "Host: a", "age: 1"), at, 18)
}

// An age is at most MaxSeconds, whichever part of it is great.
func TestAgeAtItsBound(t *testing.T) {
	for text, stated := range map[string]int64{
		"2147483646": most - 1, "2147483647": most, "2147483648": most, "4294967297": most, "99999999999999999999": most, "00002147483645": most - 2,
	} {
		for exchange := range int64(4) {
			for resident := range int64(4) {
				want := min(stated+exchange+resident, most)
				checkAge(t, fields("Age: "+text), times{1000, 1000 + exchange, 1000 + exchange + resident}, int(want))
			}
		}
	}
	const old = "Date: Thu, 01 Jan 1970 00:00:00 GMT"
	for _, length := range []int64{most - 2, most - 1, most, most + 1, 1<<32 - 1, 1 << 32, 1<<32 + 1, 1<<32 + 60, 1<<33 + 5, 1<<40 - 3, 1<<40 - 2} {
		want := int(min(length, most))
		more, still := int(min(length+1, most)), int(min(length+2, most))
		// The response is resident, on its way, or old for so long.
		checkAge(t, nil, times{0, 0, length}, want)
		checkAge(t, nil, times{0, length, length}, want)
		checkAge(t, fields(old), times{length, length, length}, want)
		checkAge(t, nil, times{1, 2, 2 + length}, more)
		checkAge(t, nil, times{1, 1 + length, 2 + length}, more)
		checkAge(t, fields(old), times{length, length, length + 1}, more)
		checkAge(t, fields("Age: 1"), times{0, 1, 1 + length}, still)
		checkAge(t, fields("Age: 1"), times{0, length, length + 1}, still)
		checkAge(t, fields(old, "Age: 7"), times{length, length, length + 2}, int(min(max(length, 7)+2, most)))
	}
}

// The times are in order, and neither before 0 nor after MaxNow.
func TestAgeAtOtherTimes(t *testing.T) {
	const last = 1 << 40
	l := fields("Age: 3")
	for at, want := range map[times]int{
		{0, 0, 0}: 3, {0, 0, 1}: 4, {0, 1, 1}: 4, {1, 1, 1}: 3, {0, 1, 2}: 5, {5, 5, 5}: 3,
		{last, last, last}: 3, {last - 1, last, last}: 4, {last - 1, last - 1, last}: 4, {last - 2, last - 1, last}: 5,
		{0, last, last}: most, {0, 0, last}: most,
		{-1, 0, 0}: most, {-1, 0, 1}: most, {-1, -1, 0}: most, {-1, -1, -1}: most, {0, -1, 0}: most, {0, -1, -1}: most, {0, 0, -1}: most, {-5, 3, 4}: most,
		{1, 0, 0}: most, {1, 0, 1}: most, {2, 1, 3}: most, {2, 1, 1}: most, {100, 99, 200}: most, {200, 100, 200}: most,
		{0, 1, 0}: most, {1, 1, 0}: most, {1, 2, 1}: most, {5, 6, 5}: most, {100, 105, 104}: most, {3, 2, 1}: most,
		{last, last, last + 1}: most, {last, last + 1, last + 1}: most, {last + 1, last + 1, last + 1}: most, {0, 0, last + 1}: most, {last - 1, last, last + 1}: most, {last + 1, last, last}: most, {last, last + 1, last}: most,
	} {
		checkAge(t, l, at, want)
		if want == most {
			checkAge(t, nil, at, most)
			checkAge(t, fields("Date: Fri, 31 Dec 9999 23:59:59 GMT", "Age: x"), at, most)
		}
	}
}

// The chapter's and the document's examples

func TestExamples(t *testing.T) {
	l := fields("Cache-Control: max-age=60", `ETag: "a"`)
	lifetime, age := freshness.Lifetime(l), freshness.Age(l, 1000, 1000, 1060)
	if lifetime != 60 || age != 60 {
		t.Errorf("the lifetime is %d and the age %d", lifetime, age)
	}
	checkFresh(t, lifetime, age, control(), control(), false)
	checkFresh(t, 60, 60, api.Control{MaxAge: -1, SMaxAge: -1, MinFresh: -1, MaxStale: 0}, control(), true)
	checkFresh(t, 60, 60, api.Control{MaxAge: -1, SMaxAge: -1, MinFresh: -1, MaxStale: most}, control(), true)
	checkFresh(t, 60, 50, api.Control{MaxAge: -1, SMaxAge: -1, MinFresh: 20, MaxStale: -1}, control(), false)
	checkFresh(t, 60, 50, control(), control(), true)
	checkLifetime(t, fields("Cache-Control: max-age=5"), 5)
}

// Rules R4 and R6

func TestRepeatedCalls(t *testing.T) {
	l := fields("Date: Sun, 06 Nov 1994 08:49:37 GMT", "Expires: Sun, 06 Nov 1994 08:50:37 GMT", "Age: 3")
	for range 100 {
		checkLifetime(t, l, 60)
		checkLifetime(t, fields("Cache-Control: max-age=5"), 5)
		checkLifetime(t, nil, 0)
		checkDate(t, l, 7, 784111777)
		checkDate(t, nil, 7, 7)
		checkAge(t, l, times{784111800, 784111810, 784111820}, 43)
		checkAge(t, nil, times{1, 2, 4}, 3)
		checkFresh(t, 60, 59, control(), control(), true)
		checkFresh(t, 60, 60, control(), control(), false)
	}
}

func TestLongFields(t *testing.T) {
	long := strings.Repeat("0", 200000)
	checkAge(t, fields("Age: "+long+"5"), times{1, 2, 4}, 8)
	checkAge(t, fields("Age: "+long+"5x"), times{1, 2, 4}, 3)
	checkAge(t, fields("Age: 9"+long), times{1, 2, 4}, most)
	checkLifetime(t, fields("Cache-Control: max-age="+long+"5"), 5)
	checkLifetime(t, fields("Date: "+long, "Expires: "+long), 0)
	checkDate(t, fields("Date: "+long), 5, 5)
	many := slices.Repeat(fields("Host: a", "X: b"), 100000)
	l := append(many, fields("Age: 5", "Date: Sun, 06 Nov 1994 08:49:37 GMT", "Expires: Sun, 06 Nov 1994 08:50:37 GMT")...)
	checkAge(t, l, times{784111777, 784111777, 784111778}, 6)
	checkLifetime(t, l, 60)
	checkDate(t, l, 5, 784111777)
}
