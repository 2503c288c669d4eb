package storable_test

import (
	"slices"
	"strings"
	"testing"

	"variantproxy/api"
	"variantproxy/storable"
)

const (
	someDate  = "Sun, 06 Nov 1994 08:49:37 GMT"
	firstDate = "Thu, 01 Jan 1970 00:00:00 GMT"
)

// fields returns the fields that the lines hold, of which the value is kept as it
// stands behind the colon and a space.
func fields(lines ...string) []api.Field {
	var l []api.Field
	for _, line := range lines {
		name, value, _ := strings.Cut(line, ": ")
		l = append(l, api.Field{Name: name, Value: value})
	}
	return l
}

// tags returns texts that are entity tags.
func tags() []string {
	return []string{`"a"`, `W/"a"`, `""`, `W/""`, `"a,b"`, `"*"`, `"\"`, `"W/"`, `"!#~"`, "\"\x80\xff\"", "\"\u00e4\"", `"` + someDate[:4] + `"`}
}

// noTags returns texts that are no entity tags.
func noTags() []string {
	return []string{
		"", "a", "*", "W/", "W/a", `"`, `W/"`, `"a`, `a"`, `w/"a"`, `W"a"`, `W/ "a"`, `W//"a"`, `W/W/"a"`, `"a"b"`, `"a", "b"`, `"a" `, ` "a"`, "\"a\"\t",
		`"a b"`, `"` + someDate + `"`, "\"a\tb\"", "\"\x00\"", "\"\x7f\"", "'a'", "ETag", someDate,
	}
}

// dates returns texts that are dates.
func dates() []string {
	return []string{someDate, firstDate, "Tue, 29 Feb 2000 23:59:59 GMT", "Sun, 07 Feb 2106 06:28:16 GMT", "Fri, 31 Dec 9999 23:59:59 GMT"}
}

// noDates returns texts that are no dates.
func noDates() []string {
	return []string{
		"", "0", "-1", "784111777", "x", "GMT", "*", `"a"`, `W/"a"`, "Last-Modified", "max-age=60", `"` + someDate + `"`,
		"Mon, 06 Nov 1994 08:49:37 GMT", "sun, 06 Nov 1994 08:49:37 GMT", "Sun, 06 NOV 1994 08:49:37 GMT", "Sun, 06 Nov 1994 08:49:37 gmt", "Sun, 06 Nov 1994 08:49:37 UTC",
		"Sun, 6 Nov 1994 08:49:37 GMT", "Sun, 06 Nov 94 08:49:37 GMT", "Sun, 06 Nov 1994 24:00:00 GMT", "Sun, 06 Nov 1994 08:60:37 GMT", "Sun, 06 Nov 1994 08:49:60 GMT",
		"Sunday, 06-Nov-94 08:49:37 GMT", "Sun Nov  6 08:49:37 1994", "Wed, 31 Dec 1969 23:59:59 GMT", "Sat, 01 Jan 10000 00:00:00 GMT", "Wed, 30 Feb 2000 00:00:00 GMT",
		" " + someDate, someDate + " ", "\t" + someDate, someDate + ", " + someDate, someDate[1:], someDate + "x",
	}
}

func checkValidator(t *testing.T, l []api.Field, want bool) {
	t.Helper()
	before := slices.Clone(l)
	if got := storable.Validator(l); got != want {
		t.Errorf("Validator(%.300q) = %v", l, got)
	}
	if !slices.Equal(l, before) {
		t.Errorf("Validator has changed its argument to %.300q", l)
	}
}

func checkUnsafe(t *testing.T, method string, want bool) {
	t.Helper()
	if got := storable.Unsafe(method); got != want {
		t.Errorf("Unsafe(%.100q) = %v", method, got)
	}
}

// Promise 24.1, Validator

func TestEntityTags(t *testing.T) {
	for _, tag := range tags() {
		for _, name := range []string{"ETag", "etag", "ETAG", "eTaG"} {
			checkValidator(t, fields(name+": "+tag), true)
			checkValidator(t, fields("Host: a", name+": "+tag, "X: "), true)
		}
	}
	for _, text := range noTags() {
		checkValidator(t, fields("ETag: "+text), false)
		checkValidator(t, fields("Host: a", "etag: "+text, "X: "), false)
	}
}

func TestLastModified(t *testing.T) {
	for _, text := range dates() {
		for _, name := range []string{"Last-Modified", "last-modified", "LAST-MODIFIED", "lAST-mODIFIED"} {
			checkValidator(t, fields(name+": "+text), true)
			checkValidator(t, fields("Host: a", name+": "+text, "X: "), true)
		}
	}
	for _, text := range noDates() {
		checkValidator(t, fields("Last-Modified: "+text), false)
		checkValidator(t, fields("Host: a", "last-modified: "+text, "X: "), false)
	}
}

// One of the two is enough, whatever the other one holds.
func TestBothValidators(t *testing.T) {
	for _, tag := range append(tags(), noTags()...) {
		for _, text := range append(dates(), noDates()...) {
			want := slices.Contains(tags(), tag) || slices.Contains(dates(), text)
			checkValidator(t, fields("ETag: "+tag, "Last-Modified: "+text), want)
			checkValidator(t, fields("Last-Modified: "+text, "ETag: "+tag), want)
		}
	}
}

// Only the first field with a name counts.
func TestFirstValidator(t *testing.T) {
	for lines, want := range map[string]bool{
		`ETag: "a"; ETag: x`:                                 true,
		`ETag: x; ETag: "a"`:                                 false,
		`ETag: ; ETag: "a"`:                                  false,
		`ETag: x; etag: "a"; ETAG: "b"`:                      false,
		`etag: "a"; ETag: `:                                  true,
		`Last-Modified: <date>; Last-Modified: x`:            true,
		`Last-Modified: x; Last-Modified: <date>`:            false,
		`Last-Modified: ; Last-Modified: <date>`:             false,
		`LAST-MODIFIED: 0; last-modified: <date>`:            false,
		`ETag: x; ETag: "a"; Last-Modified: <date>`:          true,
		`Last-Modified: <date>; ETag: x; ETag: "a"`:          true,
		`Last-Modified: x; Last-Modified: <date>; ETag: "a"`: true,
		`ETag: "a"; Last-Modified: x; Last-Modified: <date>`: true,
		`ETag: x; Last-Modified: x; ETag: "a"`:               false,
		`ETag: x; Last-Modified: x; Last-Modified: <date>`:   false,
	} {
		checkValidator(t, fields(strings.Split(strings.ReplaceAll(lines, "<date>", someDate), "; ")...), want)
	}
}

// Values of other fields are no validators, and neither are those of fields that exchange
// what they hold.
func TestNoValidators(t *testing.T) {
	checkValidator(t, nil, false)
	checkValidator(t, []api.Field{}, false)
	checkValidator(t, []api.Field{{}}, false)
	for _, name := range []string{
		"", "ETags", "E-Tag", "Tag", "ETa", " ETag", "ETag ", "ETag:", "If-None-Match", "If-Match", "If-Range", "Content-MD5", "Content-Location", "Cache-Control",
		"Last-Modifie", "Last-Modifieds", "LastModified", "Last_Modified", "Last-Modified ", " Last-Modified", "Modified", "If-Modified-Since", "If-Unmodified-Since", "Date", "Expires", "X-Last-Modified",
	} {
		checkValidator(t, []api.Field{{Name: name, Value: `"a"`}, {Name: name, Value: someDate}}, false)
		checkValidator(t, []api.Field{{Name: name, Value: someDate}, {Name: name, Value: `"a"`}}, false)
		checkValidator(t, []api.Field{{Name: name, Value: "x"}, {Name: "ETag", Value: `"a"`}}, true)
		checkValidator(t, []api.Field{{Name: name, Value: "x"}, {Name: "Last-Modified", Value: someDate}}, true)
	}
	checkValidator(t, fields("Expires: "+someDate, "Date: "+firstDate, "Cache-Control: max-age=60"), false)
}

func TestLongListsOfFields(t *testing.T) {
	many := slices.Repeat(fields("Host: a", "X: b"), 100000)
	checkValidator(t, many, false)
	checkValidator(t, append(slices.Clone(many), fields(`ETag: "a"`)...), true)
	checkValidator(t, append(slices.Clone(many), fields("Last-Modified: "+someDate)...), true)
	long := strings.Repeat("a", 500000)
	checkValidator(t, fields("ETag: "+long), false)
	checkValidator(t, fields(`ETag: "`+long+`"`), true)
	checkValidator(t, fields("Last-Modified: "+long), false)
}

// Promise 24.1, Unsafe

func TestMethods(t *testing.T) {
	for method, want := range map[string]bool{
		"GET": false, "HEAD": false, "OPTIONS": false, "TRACE": false,
		"POST": true, "PUT": true, "PATCH": true, "DELETE": true, "CONNECT": true, "PROPFIND": true, "SEARCH": true, "QUERY": true, "PURGE": true, "X": true,
		"get": true, "Get": true, "GEt": true, "head": true, "Head": true, "options": true, "Options": true, "trace": true, "Trace": true, "post": true,
		"": true, " ": true, "*": true, "G": true, "GE": true, "ET": true, "GETS": true, "GET ": true, " GET": true, "GET\x00": true, "GET\n": true, "GETGET": true, "GET, HEAD": true, "GET HEAD OPTIONS TRACE": true, "GETHEADOPTIONSTRACE": true,
		"HEA": true, "EAD": true, "HEADER": true, "OPTION": true, "OPTIONSS": true, "PTIONS": true, "TRAC": true, "TRACES": true, "RACE": true,
		"\x00": true, "\xff": true, "\u0130": true, "HE\u0391D": true, "G\u0395T": true, "OPT\u0131ONS": true,
	} {
		checkUnsafe(t, method, want)
	}
	for _, method := range []string{"GET", "HEAD", "OPTIONS", "TRACE"} {
		checkUnsafe(t, strings.Repeat(method, 50000), true)
	}
}

// Any other text than one of the four is unsafe: each byte of them counts.
func TestMethodsWithAnotherByte(t *testing.T) {
	for _, method := range []string{"GET", "HEAD", "OPTIONS", "TRACE"} {
		for i := range len(method) {
			checkUnsafe(t, method[:i]+method[i+1:], true)
			for c := range 256 {
				other := string([]byte{byte(c)})
				checkUnsafe(t, method[:i]+other+method[i+1:], other != method[i:i+1])
				checkUnsafe(t, method[:i]+other+method[i:], true)
				checkUnsafe(t, method+other, true)
			}
		}
	}
}
