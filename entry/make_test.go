package entry_test

import (
	"fmt"
	"math"
	"reflect"
	"slices"
	"strconv"
	"strings"
	"testing"

	"variantproxy/api"
	"variantproxy/entry"
)

// fields returns the fields that the lines hold, of which the value is kept as it
// stands behind the colon and a space.
func fields(lines ...string) []api.Field {
	var l []api.Field
	for _, line := range lines {
		name, value, _ := strings.Cut(line, ": ")
		l = append(l, api.Field{Name: name, Value: value})
	}
	return l
}

// get returns a request with these fields.
func get(lines ...string) api.Request {
	return api.Request{Method: "GET", Target: "/", Minor: 1, Fields: fields(lines...)}
}

// ok returns a response with these fields.
func ok(lines ...string) api.Response {
	return api.Response{Minor: 1, Status: 200, Reason: "OK", Fields: fields(lines...), Body: "abc"}
}

// axis returns an axis with the values between the spaces of a text.
func axis(name, values string) api.Axis {
	return api.Axis{Name: name, Values: strings.Fields(values)}
}

// languages are the axes of "Variants: accept-language=(en fr)".
func languages() []api.Axis {
	return []api.Axis{axis("accept-language", "en fr")}
}

// keysOf returns keys with the values between the spaces of each text.
func keysOf(texts ...string) [][]string {
	var keys [][]string
	for _, text := range texts {
		keys = append(keys, strings.Fields(text))
	}
	return keys
}

// shortened returns the beginning of the text of anything.
func shortened(value any) string {
	return fmt.Sprintf("%.500q", fmt.Sprint(value))
}

// roomy returns a copy of a list with room behind its end, in which element stands.
func roomy[T any](l []T, element T) []T {
	return append(append(make([]T, 0, len(l)+1), l...), element)[:len(l)]
}

// roomyEntry returns a copy of an entry of which each list has room behind its end.
func roomyEntry(e api.Entry) api.Entry {
	var keys [][]string
	for _, key := range e.Keys {
		keys = append(keys, roomy(key, "spare"))
	}
	e.Keys = roomy(keys, []string{"spare"})
	e.Vary, e.Snapshot = roomy(e.Vary, "spare"), roomy(e.Snapshot, "spare")
	e.Fields = roomy(e.Fields, api.Field{Name: "Spare"})
	return e
}

// whole returns a deep copy of an entry in which each list goes on to the end of its
// memory, so that all that a function could have changed is compared.
func whole(e api.Entry) api.Entry {
	var keys [][]string
	for _, key := range e.Keys[:cap(e.Keys)] {
		keys = append(keys, slices.Clone(key[:cap(key)]))
	}
	e.Keys = keys
	e.Vary, e.Snapshot = slices.Clone(e.Vary[:cap(e.Vary)]), slices.Clone(e.Snapshot[:cap(e.Snapshot)])
	e.Fields = slices.Clone(e.Fields[:cap(e.Fields)])
	return e
}

// listsOf returns the lists of texts of an entry and of axes, with all of their memory.
func listsOf(e api.Entry, axes []api.Axis) [][]string {
	lists := [][]string{e.Vary[:cap(e.Vary)], e.Snapshot[:cap(e.Snapshot)]}
	for _, key := range e.Keys {
		lists = append(lists, key[:cap(key)])
	}
	for _, a := range axes {
		lists = append(lists, a.Values[:cap(a.Values)])
	}
	return lists
}

// checkApart expects that no two lists of a result share memory, and writes to all of it.
func checkApart(t *testing.T, e api.Entry, axes []api.Axis) {
	t.Helper()
	lists := listsOf(e, axes)
	for i, list := range lists {
		for k := range list {
			list[k] = strconv.Itoa(i)
		}
	}
	for i, list := range lists {
		for _, text := range list {
			if text != strconv.Itoa(i) {
				t.Errorf("the lists %d and %s of one result share memory", i, text)
			}
		}
	}
	for i := range e.Fields[:cap(e.Fields)] {
		e.Fields[:cap(e.Fields)][i] = api.Field{Name: "Other"}
	}
	for i := range axes[:cap(axes)] {
		axes[:cap(axes)][i] = api.Axis{Name: "other"}
	}
	for i := range e.Keys[:cap(e.Keys)] {
		e.Keys[:cap(e.Keys)][i] = nil
	}
}

// sameAxes reports whether two lists of axes are equal, where an empty one is as good as
// none.
func sameAxes(a, b []api.Axis) bool {
	return slices.EqualFunc(a, b, func(a, b api.Axis) bool {
		return a.Name == b.Name && slices.Equal(a.Values, b.Values)
	})
}

// sameEntry is what Equal must be.
func sameEntry(a, b api.Entry) bool {
	normal := func(e api.Entry) api.Entry {
		var keys [][]string
		for _, key := range e.Keys {
			keys = append(keys, append([]string{}, key...))
		}
		e.Keys, e.Vary, e.Snapshot, e.Fields = keys, append([]string{}, e.Vary...), append([]string{}, e.Snapshot...), append([]api.Field{}, e.Fields...)
		return e
	}
	return reflect.DeepEqual(normal(a), normal(b))
}

// checkMade expects this entry and these axes of a response to a request, and that the
// arguments are neither changed nor shared.
func checkMade(t *testing.T, q api.Request, r api.Response, want api.Entry, axes []api.Axis) {
	t.Helper()
	asked, replied := slices.Clone(q.Fields), slices.Clone(r.Fields)
	spare := api.Field{Name: "Spare", Value: "spare"}
	q.Fields, r.Fields = roomy(q.Fields, spare), roomy(r.Fields, spare)
	got, gotAxes := entry.Make(q, r, want.Requested, want.Received)
	if !sameEntry(got, want) {
		t.Errorf("Make(%s, %s) = %s, not %s", shortened(q), shortened(r), shortened(got), shortened(want))
	}
	if !sameAxes(gotAxes, axes) {
		t.Errorf("Make(%s, %s) has the axes %s, not %s", shortened(q), shortened(r), shortened(gotAxes), shortened(axes))
	}
	checkApart(t, got, gotAxes)
	if !slices.Equal(q.Fields[:len(asked)+1], append(asked, spare)) || !slices.Equal(r.Fields[:len(replied)+1], append(replied, spare)) {
		t.Errorf("Make has changed or shares the fields, now %s and %s", shortened(q.Fields), shortened(r.Fields))
	}
}

// checkKeys expects that a response has these keys and axes, whatever Vary names, and that
// its fields are kept.
func checkKeys(t *testing.T, q api.Request, r api.Response, axes []api.Axis, keys ...string) {
	t.Helper()
	for _, more := range [][]api.Field{nil, fields("Vary: Accept-Language"), fields("Vary: *"), fields("vary: accept-language, DPR", "VARY: x")} {
		for _, l := range [][]api.Field{slices.Concat(more, r.Fields), slices.Concat(r.Fields, more)} {
			varied := r
			varied.Fields = l
			checkMade(t, q, varied, api.Entry{Keys: keysOf(keys...), Reason: r.Reason, Fields: l, Body: r.Body, Requested: 5, Received: 7}, axes)
		}
	}
}

// checkNoKeys expects that a response with these lines has neither keys nor axes, so that it
// is selected by Vary.
func checkNoKeys(t *testing.T, lines ...string) {
	t.Helper()
	q := get("Host: a", "Accept-Language: EN, fr;q=0.5", "DPR: 2 ,3")
	r := ok(lines...)
	checkMade(t, q, r, api.Entry{Reason: r.Reason, Fields: r.Fields, Body: r.Body, Requested: 5, Received: 7}, nil)
	for _, l := range [][]api.Field{slices.Concat(fields("Vary: DPR, Accept-Language"), r.Fields), slices.Concat(r.Fields, fields("vary: accept-language", "VARY: dpr"))} {
		varied := r
		varied.Fields = l
		want := api.Entry{Vary: []string{"accept-language", "dpr"}, Snapshot: []string{"=en, fr;q=0.5", "=2 ,3"}, Reason: r.Reason, Fields: l, Body: r.Body, Requested: 5, Received: 7}
		checkMade(t, q, varied, want, nil)
	}
}

// Promise 26.1, keys and axes

func TestKeys(t *testing.T) {
	q := get("Host: a", "Accept-Language: fr")
	checkKeys(t, q, ok("Variants: accept-language=(en fr)", "Variant-Key: (en)"), languages(), "en")
	checkKeys(t, q, ok("Variants: accept-language=(en fr)", "Variant-Key: (fr)"), languages(), "fr")
	checkKeys(t, q, ok("Variants: accept-language=(en fr)", "Variant-Key: (fr), (en)"), languages(), "fr", "en")
	checkKeys(t, q, ok("Variants: accept-language=(en fr)", "Variant-Key: (fr), (en), (fr)"), languages(), "fr", "en")
	checkKeys(t, q, ok("VARIANTS: Accept-Language=( en  fr )", "Date: x", "variant-key: ( FR ), , (En)"), languages(), "fr", "en")
	checkKeys(t, q, ok("Variant-Key: (fr)", "Variants: accept-language=(en fr)", "Variant-Key: (en), (FR)"), languages(), "fr", "en")
	// Upper case in the values of the axes is kept, also in keys.
	checkKeys(t, q, ok("Variants: Accept-Language=(EN Fr)", "Variant-Key: (fr)"), []api.Axis{axis("accept-language", "EN Fr")}, "Fr")
	both := []api.Axis{axis("accept-language", "en fr"), axis("accept-encoding", "gzip identity")}
	example := "Variants: Accept-Language=(en fr), Accept-Encoding=(gzip identity)"
	checkKeys(t, q, ok(example, "Variant-Key: (FR gzip), (en gzip)"), both, "fr gzip", "en gzip")
	checkKeys(t, q, ok(example, "Variant-Key: (fr identity)"), both, "fr identity")
	checkKeys(t, q, ok(example, `Variant-Key: (en x-gzip), ("en" "gzip"), (EN identity)`), both, "en gzip", "en identity")
	checkKeys(t, q, ok("Variants: Accept-Language=(en fr)", "ETag: a", "Variants: Accept-Encoding=(gzip identity)", "Variant-Key: (fr gzip)"), both, "fr gzip")
	// The axes are those of the response, whether the request has the fields or not.
	checkKeys(t, api.Request{}, ok("Variants: dpr=(1 2)", "Variant-Key: (2)"), []api.Axis{axis("dpr", "1 2")}, "2")
	checkKeys(t, get("DPR: 1"), ok("Variants: dpr=(1 2)", "Variant-Key: (2)"), []api.Axis{axis("dpr", "1 2")}, "2")
}

// A quoted value may have spaces.
func TestQuotedValues(t *testing.T) {
	r := ok(`Variants: X=("a b" c)`, `Variant-Key: ("a b"), (c)`)
	want := api.Entry{Keys: [][]string{{"a b"}, {"c"}}, Reason: "OK", Fields: r.Fields, Body: "abc"}
	checkMade(t, get(), r, want, []api.Axis{{Name: "x", Values: []string{"a b", "c"}}})
}

// The most axes, values and keys that there can be.
func TestManyKeys(t *testing.T) {
	var axes []api.Axis
	var members, values []string
	for i := range api.MaxValues {
		values = append(values, "v"+strconv.Itoa(i))
	}
	for i := range api.MaxAxes {
		axes = append(axes, axis("x"+strconv.Itoa(i), strings.Join(values, " ")))
		members = append(members, "X"+strconv.Itoa(i)+"=("+strings.Join(values, " ")+")")
	}
	var keys []string
	for i := range api.MaxMembers + 10 {
		keys = append(keys, strings.Join([]string{values[i%16], values[i/16], values[15], values[i/16]}, " "))
	}
	stated := "Variant-Key: (" + strings.Join(keys, "), (") + ")"
	// Of a list, only the first members are looked at.
	checkKeys(t, get(), ok("Variants: "+strings.Join(members, ", "), stated), axes, keys[:api.MaxMembers]...)
	checkKeys(t, get(), ok("Variants: "+strings.Join(members, ", "), stated+", (v0)"), axes, keys[:api.MaxMembers]...)
	checkNoKeys(t, "Variants: "+strings.Join(members, ", "), "Variant-Key: (v0), "+stated[len("Variant-Key: "):])
	checkNoKeys(t, "Variants: "+strings.Join(append(members, "y=(a)"), ", "), stated)
	checkNoKeys(t, "Variants: x=("+strings.Join(append(values, "w"), " ")+")", "Variant-Key: (w)")
}

// Keys need both fields, without any error.
func TestResponsesWithoutKeys(t *testing.T) {
	checkNoKeys(t)
	checkNoKeys(t, "Date: x", "ETag: y")
	checkNoKeys(t, "Variants: accept-language=(en fr)")
	checkNoKeys(t, "Variant-Key: (en)")
	checkNoKeys(t, "Variants: accept-language=(en fr)", "Variants-Key: (en)", "X-Variant-Key: (en)", "Variant-Keys: (en)")
	checkNoKeys(t, "Variant: accept-language=(en fr)", "X-Variants: accept-language=(en fr)", "Variant-Key: (en)")
	for _, value := range []string{
		"", ",", " , ", "accept-language", "accept-language=", "accept-language=en", "accept-language=(", "accept-language=(en", "accept-language=en)", "accept-language=()", "accept-language=( )", "=(en)", "(en)",
		"accept-language =(en)", "accept-language= (en)", "accept-language=(en fr) x", "accept-language=(en fr);x", "accept-language=(en\tfr)", "accept-language=(en, fr)", "accept language=(en)",
		"accept-language=(en EN)", "accept-language=(en *)", "accept-language=(en e_n)", "accept-encoding=(gzip x-gzip en)", "accept-language=(en), accept-language=(fr)", "accept-language=(en), ACCEPT-LANGUAGE=(fr)",
		"accept-language=(en), x", "accept-language=(en), x=()", "accept=(text)", "accept=(text/html;q=1 en)", "accept-encoding=(en *)", `accept-language=(en "fr)`, `x=(en " b")`, "a=(en), b=(en), c=(en), d=(en), e=(en)",
	} {
		checkNoKeys(t, "Variants: "+value, "Variant-Key: (en)")
		checkNoKeys(t, "Variants: "+value, "Variant-Key: (en en)")
		checkNoKeys(t, "Variants: x=(en)", "variants: "+value+", y", "Variant-Key: (en)")
	}
	for _, value := range []string{
		"", ",", " , ", "en", "(en", "en)", "()", "( )", "(en fr)", "(en), (en fr)", "(en), ()", "(de)", "(en), (de)", "(de), (en)", "(*)", "(en), fr", "fr, (en)", "(en) (fr)", "(en)(fr)", "(en);q=1", "(en\t)",
		"(en,fr)", `("en)`, `(en"fr")`, "[en]", "((en))", "accept-language=(en)", "(e n)", "(en-US)", "(e)", "(\u0435n)",
	} {
		checkNoKeys(t, "Variants: accept-language=(en fr)", "Variant-Key: "+value)
		checkNoKeys(t, "Variant-Key: "+value, "Variants: accept-language=(en fr)", "Variant-Key: "+value)
	}
	// One good field does not excuse another one.
	checkNoKeys(t, "Variants: accept-language=(en fr)", "Variants: x", "Variant-Key: (en)")
	checkNoKeys(t, "Variants: accept-language=(en fr)", "Variant-Key: (en)", "Variant-Key: x")
	checkNoKeys(t, "Variants: accept-language=(en fr)", "Variants: dpr=(1)", "Variant-Key: (en)")
}

// The fields of the request are not those of the response.
func TestVariantsOfTheRequest(t *testing.T) {
	q := get("Variants: accept-language=(en fr)", "Variant-Key: (en)", "Vary: DPR", "DPR: 3")
	for _, lines := range [][]string{nil, {"Variants: accept-language=(en fr)"}, {"Variant-Key: (en)"}} {
		r := ok(lines...)
		checkMade(t, q, r, api.Entry{Reason: "OK", Fields: r.Fields, Body: "abc"}, nil)
	}
}

// Promise 26.1, Vary and Snapshot

func TestVary(t *testing.T) {
	q := get("Host: a", "Accept: Text/HTML ,x/y", "User-Agent: Ua, B", "ACCEPT-encoding: gzip", "user-agent: c", "Accept-Encoding: BR;q=0.50,", "Empty: ", "Accept-Language: ")
	for value, want := range map[string][]string{
		"Accept":               {"accept", "=text/html, x/y"},
		"User-Agent":           {"user-agent", "=Ua, B, c"},
		"Accept-Encoding":      {"accept-encoding", "=gzip, br;q=0.50"},
		"Accept-Language":      {"accept-language", "="},
		"Empty":                {"empty", "="},
		"Missing":              {"missing", ""},
		"x, ACCEPT, host":      {"accept", "host", "x", "=text/html, x/y", "=a", ""},
		"b, a, B, b, A":        {"a", "b", "", ""},
		"Variants, Vary":       {"variants", "vary", "", ""},
		"connection":           {"connection", ""},
		" , Host ,,":           {"host", "=a"},
		"":                     nil,
		",":                    nil,
		"*":                    nil,
		"Accept, *":            nil,
		"Accept, a b":          nil,
		`"Accept"`:             nil,
		"Accept, \xff":         nil,
		repeated("Accept", 63): {"accept", "=text/html, x/y"},
		repeated("Accept", 64): nil,
		repeated("Accept", 65): nil,
	} {
		r := ok("Vary: " + value)
		half := len(want) / 2
		made := api.Entry{Vary: want[:half], Snapshot: want[half:], Reason: "OK", Fields: r.Fields, Body: "abc", Requested: 1, Received: 2}
		checkMade(t, q, r, made, nil)
		// A part of the fields of the other way of selection does not matter.
		for _, line := range []string{"Variants: accept-language=(en fr)", "Variant-Key: (en)", "Variants: x=(", "Variant-Key: x"} {
			r.Fields = append(fields("VARY: "+value), fields(line)...)
			made.Fields = r.Fields
			checkMade(t, q, r, made, nil)
		}
	}
}

func repeated(member string, count int) string {
	return strings.Repeat(member+", ", count-1) + member
}

// The texts of a snapshot are those of the request, also of fields that concern one
// connection.
func TestSnapshotOfStrippedFields(t *testing.T) {
	r := ok("Vary: TE, X-A, Connection, Upgrade", "Connection: x-a", "X-A: from the origin", "TE: from the origin")
	q := get("Connection: X-A, close", "X-A: b", "Te: trailers", "TE: x")
	want := api.Entry{
		Vary:     []string{"connection", "te", "upgrade", "x-a"},
		Snapshot: []string{"=X-A, close", "=trailers, x", "", "=b"},
		Reason:   "OK", Fields: fields("Vary: TE, X-A, Connection, Upgrade"), Body: "abc",
	}
	checkMade(t, q, r, want, nil)
}

// Promise 26.1, the other parts

func TestStrippedFields(t *testing.T) {
	all := fields("Server: a", "Connection: close, X-a, Variants, Variant-Key, Vary, Cache-Control, Via, Host", "X-A: b", "keep-alive: c", "Proxy-Connection: d", "Proxy-Authenticate: e", "Proxy-Authorization: f",
		"TE: g", "Trailer: h", "Transfer-Encoding: chunked", "content-LENGTH: 3", "Upgrade: i", "Age: 5", "Date: j", "Via: 1.1 k", "Host: l", "Cache-Control: m", "X-B: n", "Set-Cookie: o", "ETag: p", "Close: q", "age: 6")
	kept := fields("Server: a", "Age: 5", "Date: j", "Via: 1.1 k", "Host: l", "Cache-Control: m", "X-B: n", "Set-Cookie: o", "ETag: p", "age: 6")
	keyed := fields("Variants: accept-language=(en fr)", "Variant-Key: (en)", "Vary: X-C")
	r := ok()
	r.Fields = slices.Concat(all, keyed)
	checkMade(t, get(), r, api.Entry{Keys: keysOf("en"), Reason: "OK", Fields: slices.Concat(kept, keyed), Body: "abc"}, languages())
	r.Fields = slices.Concat(all, keyed[1:])
	checkMade(t, get("X-C: D"), r, api.Entry{Vary: []string{"x-c"}, Snapshot: []string{"=D"}, Reason: "OK", Fields: slices.Concat(kept, keyed[1:]), Body: "abc"}, nil)
	r.Fields = fields("TE: a")
	checkMade(t, get(), r, api.Entry{Reason: "OK", Body: "abc"}, nil)
}

func TestTextsAndTimes(t *testing.T) {
	for _, text := range []string{"", "OK", " ", "Not Found", "\r\n\x00\xff", "ok\t", strings.Repeat("a", 200000)} {
		for _, at := range []int64{0, 1, -1, api.MaxNow, api.MaxNow + 1, math.MaxInt64, math.MinInt64} {
			for _, keyed := range []bool{false, true} {
				r := api.Response{Minor: 1, Status: 200, Reason: text, Body: "b" + text}
				want := api.Entry{Reason: text, Body: "b" + text, Requested: at, Received: 10 - at}
				var axes []api.Axis
				if keyed {
					r.Fields = fields("Variants: accept-language=(en fr)", "Variant-Key: (en)")
					want.Keys, want.Fields, axes = keysOf("en"), r.Fields, languages()
				}
				checkMade(t, get(), r, want, axes)
			}
		}
	}
	checkMade(t, api.Request{}, api.Response{}, api.Entry{}, nil)
}

// Nothing is judged, and only some parts of the arguments matter.
func TestPartsWithoutMeaning(t *testing.T) {
	for _, number := range []int{math.MinInt, -1, 0, 1, 100, 200, 206, 304, 404, 500, math.MaxInt} {
		for _, text := range []string{"", "GET", "HEAD", "POST", "/", "*", "\x00\xff"} {
			q := api.Request{Method: text, Target: text, Minor: number, Fields: fields("A: b", "Range: x", "Cache-Control: no-store"), Body: text}
			r := api.Response{Minor: number, Status: number, Reason: "r", Fields: fields("Cache-Control: no-store, private", "Vary: A", "\x00: \xff", ": "), Body: "b"}
			want := api.Entry{Vary: []string{"a"}, Snapshot: []string{"=b"}, Reason: "r", Fields: r.Fields, Body: "b", Requested: 9, Received: 3}
			checkMade(t, q, r, want, nil)
			r.Fields = append(r.Fields, fields("Variants: accept-language=(en fr)", "Variant-Key: (fr)")...)
			checkMade(t, q, r, api.Entry{Keys: keysOf("fr"), Reason: "r", Fields: r.Fields, Body: "b", Requested: 9, Received: 3}, languages())
		}
	}
}

// Rules R4 and R6: entries for the same response share no memory.
func TestRepeatedMakes(t *testing.T) {
	q := get("Accept-Language: en", "DPR: 2")
	for _, lines := range [][]string{
		{"Variants: accept-language=(en fr), dpr=(1 2)", "Variant-Key: (en 2), (en 1)", "Date: x"},
		{"Vary: accept-language, dpr", "Date: x"},
	} {
		r := ok(lines...)
		one, oneAxes := entry.Make(q, r, 1, 2)
		other, otherAxes := entry.Make(q, r, 1, 2)
		if !sameEntry(one, other) || !sameAxes(oneAxes, otherAxes) {
			t.Errorf("two entries are %s and %s", shortened(one), shortened(other))
		}
		checkApart(t, one, oneAxes)
		third, thirdAxes := entry.Make(q, r, 1, 2)
		if !sameEntry(other, third) || !sameAxes(otherAxes, thirdAxes) {
			t.Errorf("entries share memory: %s and %s", shortened(other), shortened(third))
		}
	}
}
