package storable_test

import (
	"math"
	"slices"
	"strings"
	"testing"

	"variantproxy/api"
	"variantproxy/storable"
)

// get returns a GET request with these fields.
func get(lines ...string) api.Request {
	return api.Request{Method: "GET", Target: "/", Minor: 1, Fields: append(fields("Host: a"), fields(lines...)...)}
}

// ok returns a response with the status 200 and these fields.
func ok(lines ...string) api.Response {
	return api.Response{Minor: 1, Status: 200, Reason: "OK", Fields: fields(lines...), Body: "abc"}
}

// checkStorable expects this of a response to a request, and that neither is changed.
func checkStorable(t *testing.T, q api.Request, r api.Response, want bool) {
	t.Helper()
	asked, replied := slices.Clone(q.Fields), slices.Clone(r.Fields)
	if got := storable.Storable(q, r); got != want {
		t.Errorf("Storable(%.300q, %.300q) = %v", described(q), replied, got)
	}
	if !slices.Equal(q.Fields, asked) || !slices.Equal(r.Fields, replied) {
		t.Errorf("Storable has changed the fields to %.300q and %.300q", q.Fields, r.Fields)
	}
}

// described returns the parts of a request that may matter.
func described(q api.Request) []string {
	lines := []string{q.Method}
	for _, f := range q.Fields {
		lines = append(lines, f.Name+": "+f.Value)
	}
	return lines
}

// checkReply expects this of a response with these fields to a request without any that
// matters.
func checkReply(t *testing.T, want bool, lines ...string) {
	t.Helper()
	checkStorable(t, get(), ok(lines...), want)
	// Other fields do not matter, and neither does the case of the names.
	var loud []string
	for _, line := range lines {
		name, value, _ := strings.Cut(line, ": ")
		loud = append(loud, strings.ToUpper(name)+": "+value)
	}
	checkStorable(t, get("Accept: text/html"), ok(slices.Concat(fieldsOfAny(), loud, fieldsOfAny())...), want)
}

// fieldsOfAny returns fields that any response may have.
func fieldsOfAny() []string {
	return []string{"Server: x", "Content-Type: text/plain", "Age: 5", "Via: 1.1 b"}
}

// checkAsked expects this of a request with these fields and a response that may be stored.
func checkAsked(t *testing.T, want bool, lines ...string) {
	t.Helper()
	checkStorable(t, get(lines...), ok("Cache-Control: max-age=60"), want)
	checkStorable(t, get(lines...), ok(`ETag: "a"`), want)
}

// members returns a list of so many members.
func members(count int) string {
	return strings.Repeat("a, ", count-1) + "a"
}

// Promise 24.2, method and status

func TestMethodOfStorable(t *testing.T) {
	for _, method := range []string{"HEAD", "OPTIONS", "TRACE", "POST", "PUT", "PATCH", "DELETE", "CONNECT", "QUERY", "get", "Get", "GEt", "", "GET ", " GET", "GETS", "GE", "G", "*", "GET\x00", "GET\xff"} {
		q := get()
		q.Method = method
		checkStorable(t, q, ok("Cache-Control: max-age=60, public, must-revalidate", `ETag: "a"`, "Last-Modified: "+someDate), false)
	}
	for i := range len("GET") {
		for c := range 256 {
			method := []byte("GET")
			method[i] = byte(c)
			q := get()
			q.Method = string(method)
			checkStorable(t, q, ok("Cache-Control: max-age=60"), q.Method == "GET")
		}
	}
}

func TestStatusOfStorable(t *testing.T) {
	statuses := []int{math.MinInt, -200, -1, 0, 1, 2, 20, 1000, 2000, math.MaxInt, math.MaxInt32, math.MinInt32, 200 + 1<<16}
	for status := range 700 {
		statuses = append(statuses, status)
	}
	for _, status := range statuses {
		r := ok("Cache-Control: max-age=60, public, must-revalidate", `ETag: "a"`, "Last-Modified: "+someDate)
		r.Status = status
		checkStorable(t, get(), r, status == 200)
	}
}

// Parts that the promise does not name do not matter.
func TestPartsWithoutMeaning(t *testing.T) {
	for _, lines := range [][]string{{"Cache-Control: max-age=60"}, {"Cache-Control: max-age=0"}} {
		want := lines[0] == "Cache-Control: max-age=60"
		for _, minor := range []int{math.MinInt, -1, 0, 1, 2, math.MaxInt} {
			for _, text := range []string{"", "/", "*", "x y", "\x00\xff", "no-store", strings.Repeat("a", 200000)} {
				r := api.Response{Minor: minor, Status: 200, Reason: text, Fields: fields(lines...), Body: text}
				checkStorable(t, api.Request{Method: "GET", Target: text, Minor: minor, Body: text}, r, want)
			}
		}
	}
	checkStorable(t, api.Request{}, api.Response{}, false)
	checkStorable(t, api.Request{Method: "GET"}, api.Response{Status: 200}, false)
	checkStorable(t, api.Request{Method: "GET"}, api.Response{Status: 200, Fields: fields(`ETag: "a"`)}, true)
}

// Promise 24.2, directives

func TestNoStoreOfRequest(t *testing.T) {
	for value, want := range map[string]bool{
		"no-store": false, "No-Store": false, "NO-STORE": false, "no-store=1": false, `no-store="x"`: false, "no-store=": false, "no-store x": false,
		"max-age=0, no-store": false, "no-store, max-age=0": false, "no-cache,no-store": false, ", no-store": false, `x="a, b", no-store`: false, "x\", no-store": true,
		"": true, "no-cache": true, "max-age=0": true, "max-age=x": true, "private": true, "public": true, "only-if-cached": true, "must-revalidate": true, "proxy-revalidate": true, "s-maxage=0": true, "min-fresh=5": true, "max-stale": true, "max-stale=5": true,
		"nostore": true, "no_store": true, "no-stores": true, "no-stor": true, "o-store": true, "x-no-store": true, "no-store-x": true, "no store": true, `"no-store"`: true, `x="no-store"`: true, `x="a, no-store"`: true,
	} {
		checkAsked(t, want, "Cache-Control: "+value)
		checkAsked(t, want, "CACHE-CONTROL: "+value, "Cache-Control: max-age=5")
		checkAsked(t, want, "Cache-Control: max-age=5", "Accept: */*", "cache-control: "+value)
		// Other fields say nothing of this, and neither does one of an old request.
		checkAsked(t, true, "Pragma: "+value)
		checkAsked(t, true, "X-Cache-Control: "+value, "Cache-Contro: "+value, "Expires: "+value, "Vary: "+value)
	}
	checkAsked(t, true, "Pragma: no-cache")
}

func TestNoStoreAndPrivateOfResponse(t *testing.T) {
	for value, want := range map[string]bool{
		"no-store": false, "No-Store": false, "no-store=1": false, `no-store="x"`: false, "no-store x": false, "public, no-store": false, "no-store, public": false, "must-revalidate, no-store": false,
		"private": false, "PRIVATE": false, "private=x": false, `private="set-cookie, x"`: false, "private=": false, "private x": false, "public, private": false, "private, public, must-revalidate, s-maxage=60": false, "no-store, private": false,
		"": true, "no-cache": true, `no-cache="set-cookie"`: true, "public": true, "must-revalidate": true, "proxy-revalidate": true, "only-if-cached": true, "min-fresh=5": true, "max-stale": true, "s-maxage=60": true, "max-age=5": true,
		"privat": true, "privates": true, "rivate": true, "x-private": true, "private-x": true, `"private"`: true, `x="private"`: true, `x="a, private, no-store"`: true, "no-stores": true, "nostore": true, "no-transform": true,
	} {
		checkReply(t, want, "Cache-Control: "+value, "Cache-Control: max-age=60")
		checkReply(t, want, "Cache-Control: "+value, `ETag: "a"`)
		checkReply(t, want, "Last-Modified: "+someDate, "Cache-Control: max-age=5", "Cache-Control: "+value)
		checkReply(t, want, "Cache-Control: max-age=60, "+value)
		// Other fields say nothing of this.
		checkReply(t, true, "Pragma: "+value, "X-Cache-Control: "+value, "Surrogate-Control: "+value, `ETag: "a"`)
	}
	// Only Cache-Control of the response is asked about Private, and not that of the request.
	checkStorable(t, get("Cache-Control: private"), ok(`ETag: "a"`), true)
	checkStorable(t, get("Cache-Control: private"), ok("Cache-Control: private", `ETag: "a"`), false)
	checkStorable(t, get("Cache-Control: no-store"), ok("Cache-Control: no-store", `ETag: "a"`), false)
	checkStorable(t, get("Cache-Control: no-store"), ok("Cache-Control: public, max-age=60", `ETag: "a"`), false)
}

// A list that may have been cut off may have held no-store.
func TestManyDirectives(t *testing.T) {
	for _, count := range []int{1, 2, 62, 63} {
		checkAsked(t, true, "Cache-Control: "+members(count))
		checkReply(t, true, "Cache-Control: "+members(count), `ETag: "a"`)
	}
	for _, count := range []int{64, 65, 200, 1000} {
		checkAsked(t, false, "Cache-Control: "+members(count))
		checkReply(t, false, "Cache-Control: "+members(count), `ETag: "a"`)
		checkReply(t, false, "Cache-Control: max-age=60, public, "+members(count-2))
	}
	checkAsked(t, true, "Cache-Control: "+members(32), "Cache-Control: "+members(31))
	checkAsked(t, false, "Cache-Control: "+members(32), "Cache-Control: "+members(32))
	checkReply(t, true, "Cache-Control: "+members(32), "Cache-Control: "+members(30)+", max-age=5")
	checkReply(t, false, "Cache-Control: "+members(32), "Cache-Control: "+members(31)+", max-age=5")
}

// Promise 24.2, Vary

func TestVary(t *testing.T) {
	for value, want := range map[string]bool{
		"Accept": true, "accept, User-Agent": true, "": true, ",": true, " , ,": true, "a, a": true, "Cookie, Authorization, Range": true, "no-store": true, "private": true, "*a": true, "a*": true, "**": true,
		"*": false, "*, a": false, "a, *": false, ", *": false, "a,*,b": false, "a b": false, "a, b c": false, `"a"`: false, `"*"`: false, "a;b": false, "a=b": false, "a:": false, "(a)": false, "\xff": false, "a, \x00": false, "a, é": false,
	} {
		for _, lines := range [][]string{{"Cache-Control: max-age=60"}, {`ETag: "a"`}, {"Last-Modified: " + someDate, "Cache-Control: public"}} {
			checkReply(t, want, append(lines, "Vary: "+value)...)
			checkReply(t, want, append(lines, "Vary: x", "vary: "+value)...)
			checkReply(t, want, append(lines, "Vary: "+value, "X: y", "VARY: x")...)
			checkReply(t, true, append(lines, "Varys: "+value, "X-Vary: "+value, "Accept: "+value)...)
			// Only the response says on what it depends.
			checkStorable(t, get("Vary: "+value), ok(lines...), true)
		}
		checkReply(t, false, "Vary: "+value)
	}
	for count, want := range map[int]bool{1: true, 62: true, 63: true, 64: false, 65: false, 500: false} {
		checkReply(t, want, "Vary: "+members(count), `ETag: "a"`)
		checkReply(t, want, "Vary: a", "Vary: "+strings.Repeat(",", 200), "Vary: "+members(max(1, count-1)), `ETag: "a"`)
	}
	// Fields of the request need not be there, and variants do not excuse Vary.
	checkReply(t, true, "Vary: DPR", "Cache-Control: max-age=60")
	checkReply(t, false, "Variants: accept=(a/b)", "Variant-Key: (a/b)", "Vary: *", "Cache-Control: max-age=60")
	checkReply(t, true, "Variants: accept=(", "Variant-Key: x", "Cache-Control: max-age=60")
}

// Promise 24.2, Range

func TestRange(t *testing.T) {
	for _, value := range []string{"bytes=0-5", "bytes=0-", "x", "", "none", "bytes=0-1, 3-4"} {
		for _, name := range []string{"Range", "range", "RANGE", "rAnGe"} {
			checkAsked(t, false, name+": "+value)
			checkAsked(t, false, "Accept: a/b", name+": "+value, "X: y")
			checkAsked(t, false, name+": "+value, "Range: x")
		}
		for _, name := range []string{"If-Range", "Accept-Ranges", "Content-Range", "Ranges", "X-Range", "Rang", "Request-Range", "", "Range ", "Range:"} {
			checkStorable(t, api.Request{Method: "GET", Fields: []api.Field{{Name: name, Value: value}}}, ok(`ETag: "a"`), true)
		}
		// Only the request may ask for a range, whatever the response says.
		checkReply(t, true, "Range: "+value, "Content-Range: "+value, "Accept-Ranges: "+value, `ETag: "a"`)
	}
	checkAsked(t, false, "Range: bytes=0-5", `If-Range: "a"`)
}

// Promise 24.2, Authorization

func TestAuthorization(t *testing.T) {
	for value, want := range map[string]bool{
		"must-revalidate": true, "Must-Revalidate": true, "must-revalidate=x": true, "public": true, "PUBLIC": true, `public="x"`: true, "s-maxage=60": true, "S-MAXAGE=60": true, `s-maxage="60"`: true,
		"s-maxage=0": true, "s-maxage": true, "s-maxage=x": true, "s-maxage=-1": true, "s-maxage=": true, "public, must-revalidate, s-maxage=5": true, "x, public": true, "no-cache, public": true,
		"": false, "max-age=60": false, "max-age=0": false, "proxy-revalidate": false, "no-cache": false, "only-if-cached": false, "min-fresh=5": false, "max-stale=5": false, "max-stale": false, "immutable": false,
		"publi": false, "publics": false, "x-public": false, `x="public"`: false, `x="a, public"`: false, "must-revalidat": false, "revalidate": false, "smaxage=5": false, "s-max-age=5": false, "maxage=5": false,
		"private": false, "private, public": false, "public, no-store": false, "s-maxage=60, private": false, "must-revalidate, no-store": false,
	} {
		withTag, withLifetime := ok("Cache-Control: "+value, `ETag: "a"`), ok("Cache-Control: "+value, "Date: "+firstDate, "Expires: "+someDate, "Last-Modified: "+someDate)
		for _, line := range []string{"Authorization: Basic abc", "authorization: x", "AUTHORIZATION: ", "aUTHORIZATION: public"} {
			checkStorable(t, get(line), withTag, want)
			checkStorable(t, get("X: y", line, "Authorization: x"), withTag, want)
			checkStorable(t, get(line, "Accept: a/b"), withLifetime, want)
			// What the request says of itself is no permission.
			checkStorable(t, get(line, "Cache-Control: public, must-revalidate, s-maxage=60"), withTag, want)
		}
		forbidden := strings.Contains(value, "private") || strings.Contains(value, "no-store")
		for _, line := range []string{"Proxy-Authorization: Basic abc", "Authorizatio: x", "Authorizations: x", "X-Authorization: x", "WWW-Authenticate: x", "Cookie: x"} {
			checkStorable(t, get(line), withTag, !forbidden)
		}
		// Only the request matters.
		checkReply(t, !forbidden, "Authorization: Basic abc", "Cache-Control: "+value, `ETag: "a"`)
	}
	// The permission does not replace a later use.
	authorized := get("Authorization: x")
	for value, want := range map[string]bool{"public": false, "must-revalidate": false, "s-maxage=0": false, "s-maxage=x": false, "s-maxage=1": true, "public, max-age=0": false, "public, max-age=1": true, "s-maxage=0, max-age=60": false, "max-age=60": false, "public, must-revalidate": false} {
		checkStorable(t, authorized, ok("Cache-Control: "+value), want)
	}
	// It does not help against a range, either.
	checkStorable(t, get("Authorization: x", "Range: y"), ok("Cache-Control: public, s-maxage=60", `ETag: "a"`), false)
}

// Promise 24.2, lifetime and validator

func TestLifetimeOfStorable(t *testing.T) {
	for value, want := range map[string]bool{
		"max-age=60": true, "max-age=1": true, "MAX-AGE=1": true, `max-age="1"`: true, "max-age=007": true, "max-age=2147483647": true, "max-age=99999999999999999999": true, "s-maxage=1": true, "s-maxage=1, max-age=0": true, "max-age=0, s-maxage=1": true, "max-age=5, max-age=0": true, "public, max-age=5": true, "no-cache, max-age=5": true, "must-revalidate, max-age=5": true,
		"": false, "max-age=0": false, "max-age": false, "max-age=": false, "max-age=x": false, "max-age=-1": false, "max-age=1.5": false, "max-age =5": false, "max-age= 5": false, "max-age=000": false, "s-maxage=0": false, "s-maxage=0, max-age=60": false, "s-maxage=x, max-age=60": false, "max-age=0, max-age=60": false, "public": false, "must-revalidate": false, "min-fresh=5": false, "max-stale=5": false, "x-max-age=5": false, "maxage=5": false,
	} {
		checkReply(t, want, "Cache-Control: "+value)
		checkReply(t, true, "Cache-Control: "+value, `ETag: "a"`)
		checkReply(t, true, "Cache-Control: "+value, "Last-Modified: "+someDate)
		checkReply(t, want, "Cache-Control: "+value, "ETag: a", "Last-Modified: 0")
		// What the client demands of the age does not matter here.
		checkStorable(t, get("Cache-Control: max-age=0, no-cache"), ok("Cache-Control: "+value), want)
		checkStorable(t, get("Cache-Control: "+value), ok(), false)
	}
}

func TestExpiresOfStorable(t *testing.T) {
	const later = "Sun, 06 Nov 1994 08:49:38 GMT"
	for _, q := range []struct {
		date, expires string
		want          bool
	}{
		{someDate, later, true}, {someDate, someDate, false}, {later, someDate, false}, {firstDate, someDate, true}, {firstDate, "Fri, 31 Dec 9999 23:59:59 GMT", true}, {"Fri, 31 Dec 9999 23:59:59 GMT", firstDate, false},
		{someDate, "0", false}, {someDate, "", false}, {"x", later, false}, {"", later, false}, {someDate, later + " ", false}, {"0", "1", false},
	} {
		date, expires := "Date: "+q.date, "Expires: "+q.expires
		checkReply(t, q.want, date, expires)
		checkReply(t, q.want, expires, date, "Cache-Control: public, no-cache")
		checkReply(t, false, expires, date, "Cache-Control: max-age=0")
		checkReply(t, true, expires, date, "Cache-Control: max-age=1")
		checkReply(t, true, expires, date, `ETag: "a"`)
		checkReply(t, true, expires, date, "Last-Modified: "+later)
		// Both are needed, and the first of each counts.
		checkReply(t, false, date)
		checkReply(t, false, expires)
		checkReply(t, q.want, date, expires, "Date: "+firstDate, "Expires: "+later)
		checkReply(t, false, "Expires: 0", expires, date)
		checkReply(t, false, "Date: 0", expires, date)
		checkStorable(t, get(date, expires), ok(), false)
	}
}

// The age does not matter: a response may be stored that is not fresh any more.
func TestAgeOfStorable(t *testing.T) {
	for _, age := range []string{"0", "59", "60", "61", "2147483647", "x", ""} {
		checkReply(t, true, "Age: "+age, "Cache-Control: max-age=60")
		checkReply(t, true, "Age: "+age, "Date: "+firstDate, "Expires: "+someDate)
		checkReply(t, false, "Age: "+age, "Cache-Control: max-age=0")
	}
}

func TestValidatorsOfStorable(t *testing.T) {
	for _, tag := range tags() {
		checkReply(t, true, "ETag: "+tag)
		checkStorable(t, get("ETag: "+tag, "If-None-Match: "+tag), ok(), false)
	}
	for _, text := range dates() {
		checkReply(t, true, "Last-Modified: "+text)
		checkStorable(t, get("Last-Modified: "+text, "If-Modified-Since: "+text), ok(), false)
	}
	for _, text := range noTags() {
		checkReply(t, false, "ETag: "+text)
		checkReply(t, false, "ETag: "+text, `ETag: "a"`)
		checkReply(t, true, "ETag: "+text, "Cache-Control: max-age=1")
		checkReply(t, true, "ETag: "+text, "Last-Modified: "+someDate)
	}
	for _, text := range noDates() {
		checkReply(t, false, "Last-Modified: "+text)
		checkReply(t, false, "Last-Modified: "+text, "Last-Modified: "+someDate)
		checkReply(t, true, "Last-Modified: "+text, "Cache-Control: max-age=1")
		checkReply(t, true, "Last-Modified: "+text, `ETag: "a"`)
	}
}

// The chapter's and the document's examples

func TestExamples(t *testing.T) {
	checkReply(t, false)
	checkReply(t, false, "Date: "+someDate, "Content-Location: /a", "Vary: Accept")
	checkReply(t, true, "Cache-Control: max-age=60", `ETag: "a"`)
	checkReply(t, true, "Cache-Control: max-age=60")
	checkReply(t, true, "Variants: accept-language=(en fr)", "Variant-Key: (en)", "Cache-Control: max-age=60")
}

// Rules R4 and R6

func TestRepeatedCalls(t *testing.T) {
	l := fields("Cache-Control: public", `ETag: "a"`, "Last-Modified: "+someDate)
	for range 100 {
		checkReply(t, true, "Cache-Control: max-age=60")
		checkReply(t, false, "Cache-Control: max-age=0")
		checkStorable(t, get("Authorization: x"), api.Response{Status: 200, Fields: l}, true)
		checkStorable(t, get("Authorization: x"), api.Response{Status: 200, Fields: l[1:]}, false)
		checkStorable(t, get("Range: x"), api.Response{Status: 200, Fields: l}, false)
		checkValidator(t, l, true)
		checkValidator(t, l[:1], false)
		checkUnsafe(t, "GET", false)
		checkUnsafe(t, "POST", true)
	}
}

func TestLongMessages(t *testing.T) {
	many := slices.Repeat([]string{"Host: a", "X: b"}, 50000)
	checkStorable(t, get(many...), ok(append(slices.Clone(many), "Cache-Control: max-age=60")...), true)
	checkStorable(t, get(many...), ok(many...), false)
	checkStorable(t, get(append(slices.Clone(many), "Range: x")...), ok(`ETag: "a"`), false)
	checkStorable(t, get(append(slices.Clone(many), "Cache-Control: no-store")...), ok(`ETag: "a"`), false)
	checkStorable(t, get(append(slices.Clone(many), "Authorization: x")...), ok(`ETag: "a"`), false)
	long := strings.Repeat("a", 500000)
	checkReply(t, true, "Vary: "+long, `ETag: "a"`)
	checkReply(t, false, "Vary: "+long+" b", `ETag: "a"`)
	checkReply(t, false, "Cache-Control: "+long)
	checkReply(t, true, "Cache-Control: "+long+", max-age=5")
}
