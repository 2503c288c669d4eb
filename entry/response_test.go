package entry_test

import (
	"math"
	"reflect"
	"slices"
	"strconv"
	"strings"
	"testing"

	"variantproxy/api"
	"variantproxy/entry"
	"variantproxy/message"
)

// checkAge expects this age, and that the entry is not changed.
func checkAge(t *testing.T, e api.Entry, now int64, want int) {
	t.Helper()
	e = roomyEntry(e)
	before := whole(e)
	if got := entry.Age(e, now); got != want {
		t.Errorf("Age(%s, %d) = %d, not %d", shortened(e), now, got, want)
	}
	if !reflect.DeepEqual(whole(e), before) {
		t.Errorf("Age has changed its argument to %s", shortened(e))
	}
}

// checkResponse expects that the response for an entry has these fields before Age and Via,
// and this age, which is that of the entry; and that nothing is changed or shared.
func checkResponse(t *testing.T, e api.Entry, now int64, name string, age int, kept ...api.Field) {
	t.Helper()
	checkAge(t, e, now, age)
	want := api.Response{Minor: 1, Status: 200, Reason: e.Reason, Body: e.Body}
	want.Fields = append(slices.Clone(kept), api.Field{Name: "Age", Value: strconv.Itoa(age)}, api.Field{Name: "Via", Value: "1.1 " + name})
	e = roomyEntry(e)
	before := whole(e)
	got := entry.Response(e, now, name)
	if !reflect.DeepEqual(got, want) {
		t.Errorf("Response(%s, %d, %.60q) = %s, not %s", shortened(e), now, name, shortened(got), shortened(want))
	}
	for i := range got.Fields[:cap(got.Fields)] {
		got.Fields[:cap(got.Fields)][i] = api.Field{Name: "Other"}
	}
	if !reflect.DeepEqual(whole(e), before) {
		t.Errorf("Response has changed or shares its argument, now %s", shortened(e))
	}
}

const (
	someDate = "Sun, 06 Nov 1994 08:49:37 GMT"
	someTime = 784111777 // of someDate
)

// Promise 26.3, Age

func TestAge(t *testing.T) {
	checkAge(t, api.Entry{}, 0, 0)
	checkAge(t, api.Entry{}, 60, 60)
	checkAge(t, api.Entry{Requested: 10, Received: 10}, 10, 0)
	checkAge(t, api.Entry{Requested: 10, Received: 13}, 13, 3)
	checkAge(t, api.Entry{Requested: 10, Received: 13}, 20, 10)
	checkAge(t, api.Entry{Requested: 10, Received: 13, Fields: fields("Age: 5")}, 20, 15)
	checkAge(t, api.Entry{Requested: 10, Received: 13, Fields: fields("Server: x", "AGE: 100", "age: 7")}, 20, 110)
	checkAge(t, api.Entry{Requested: 10, Received: 13, Fields: fields("Age: x", "Age: 7")}, 20, 10)
	checkAge(t, api.Entry{Requested: someTime, Received: someTime + 5, Fields: fields("Date: " + someDate)}, someTime+5, 5)
	checkAge(t, api.Entry{Requested: someTime + 100, Received: someTime + 105, Fields: fields("Date: " + someDate)}, someTime+106, 106)
	checkAge(t, api.Entry{Requested: someTime + 100, Received: someTime + 105, Fields: fields("Date: "+someDate, "Age: 101")}, someTime+106, 107)
	checkAge(t, api.Entry{Requested: someTime - 100, Received: someTime - 99, Fields: fields("Date: "+someDate, "Age: 2")}, someTime-90, 12)
	checkAge(t, api.Entry{Requested: someTime + 100, Received: someTime + 105, Fields: fields("Date: yesterday")}, someTime+106, 6)
	checkAge(t, api.Entry{Requested: 10, Received: 13, Fields: fields("Connection: Age, Date", "Age: 5")}, 20, 15)
	// Other parts do not matter.
	checkAge(t, api.Entry{Keys: keysOf("5"), Vary: []string{"age"}, Snapshot: []string{"=5"}, Reason: "Age: 5", Body: "Age: 5", Requested: 1, Received: 1, Fields: fields("X-Age: 5", "Expires: 0", "Cache-Control: max-age=5, no-store")}, 3, 2)
}

// The greatest age is that of an entry of which the times are not in order, too.
func TestGreatestAge(t *testing.T) {
	const most = api.MaxSeconds
	for _, c := range []struct {
		requested, received, now int64
		want                     int
	}{
		{10, 9, 20, most}, {10, 10, 9, most}, {-1, 0, 0, most}, {-1, -1, -1, most}, {10, 20, 15, most}, {0, 0, -1, most},
		{0, 0, api.MaxNow, most}, {0, 0, api.MaxNow + 1, most}, {0, 0, math.MaxInt64, most}, {math.MinInt64, 0, math.MaxInt64, most}, {math.MaxInt64, math.MaxInt64, math.MaxInt64, most}, {0, math.MinInt64, 0, most},
		{api.MaxNow, api.MaxNow, api.MaxNow, 0}, {api.MaxNow + 1, api.MaxNow + 1, api.MaxNow + 1, most}, {api.MaxNow - 5, api.MaxNow - 2, api.MaxNow, 5},
		{0, 0, most - 1, most - 1}, {0, 0, most, most}, {0, 0, most + 1, most}, {0, most, most, most}, {0, 5, most - 1, most - 1},
	} {
		e := api.Entry{Requested: c.requested, Received: c.received}
		checkAge(t, e, c.now, c.want)
		checkResponse(t, e, c.now, "p", c.want)
	}
	for _, text := range []string{"2147483647", "2147483648", "4294967296", "99999999999999999999", "0002147483647"} {
		checkAge(t, api.Entry{Fields: fields("Age: " + text)}, 5, most)
	}
	checkAge(t, api.Entry{Fields: fields("Age: 2147483640")}, 5, 2147483645)
	checkAge(t, api.Entry{Fields: fields("Age: -1")}, 5, 5)
}

// Promise 26.3, Response

func TestResponse(t *testing.T) {
	e := api.Entry{Reason: "OK", Fields: fields("Date: "+someDate, "ETag: \"a\""), Body: "abc", Requested: someTime, Received: someTime}
	checkResponse(t, e, someTime, "vp", 0, e.Fields...)
	checkResponse(t, e, someTime+60, "p", 60, e.Fields...)
	checkResponse(t, e, someTime+1234567, "x-y.z", 1234567, e.Fields...)
	checkResponse(t, e, 0, "", api.MaxSeconds, e.Fields...)
	checkResponse(t, api.Entry{}, 0, "a", 0)
	checkResponse(t, api.Entry{}, 9, "a b", 9)
	checkResponse(t, api.Entry{Reason: " \x00\xff", Body: strings.Repeat("\r\n", 100000)}, 10, "p", 10)
	// Keys, Vary and Snapshot are not sent.
	checkResponse(t, api.Entry{Keys: keysOf("en gzip"), Vary: []string{"accept"}, Snapshot: []string{"=x"}, Reason: "r"}, 99, "p", 99)
}

// All fields named Age give way to a single one, behind the others.
func TestResponseWithAges(t *testing.T) {
	for _, spelling := range []string{"Age", "age", "AGE", "aGe"} {
		checkResponse(t, api.Entry{Fields: fields(spelling + ": 5")}, 7, "p", 12)
		checkResponse(t, api.Entry{Fields: fields(spelling+": 5", "A: b", "Age: 3", "C: d", "aGE: x")}, 7, "p", 12, fields("A: b", "C: d")...)
		checkResponse(t, api.Entry{Fields: fields("A: b", spelling+": x", "A: b")}, 7, "p", 7, fields("A: b", "A: b")...)
		checkResponse(t, api.Entry{Fields: fields(spelling + ": \r\n")}, 7, "p", 7)
	}
	similar := fields("Ag: 5", "Ages: 5", "Age : 5", " Age: 5", "X-Age: 5", ": 5", "\u0410ge: 5", "Age\x00: 5", "A: ge")
	checkResponse(t, api.Entry{Fields: similar}, 7, "p", 7, similar...)
}

// No other field is left out or judged, also those that concern one connection and those
// named Via.
func TestResponseWithOtherFields(t *testing.T) {
	all := fields("Via: 1.0 a", "Connection: Age, via, X", "X: y", "TE: z", "Content-Length: 7", "Transfer-Encoding: chunked", "Variants: a=(b)", "Variant-Key: (b)", "Vary: *", "Date: x", "via: 1.1 p", "\x00: \xff", ": ", "B:  c ")
	checkResponse(t, api.Entry{Fields: all}, 7, "p", 7, all...)
	for _, name := range []string{"", " ", "a b", "a,b", "\r\n", "\xff\x00", "Age", strings.Repeat("n", 100000)} {
		checkResponse(t, api.Entry{Fields: all[:2]}, 7, name, 7, all[:2]...)
	}
	var many []api.Field
	for i := range 100000 {
		many = append(many, api.Field{Name: strconv.Itoa(i), Value: "v"})
	}
	checkResponse(t, api.Entry{Fields: many}, 7, "p", 7, many...)
}

// Rules R4 and R6: responses for one entry share no memory, also if there is room behind
// its fields.
func TestRepeatedResponses(t *testing.T) {
	e := roomyEntry(api.Entry{Fields: fields("A: b", "Age: 1", "C: d")})
	one, other := entry.Response(e, 1, "one"), entry.Response(e, 2, "other")
	if want := fields("A: b", "C: d", "Age: 2", "Via: 1.1 one"); !slices.Equal(one.Fields, want) {
		t.Errorf("the first response has the fields %v", one.Fields)
	}
	for i := range one.Fields[:cap(one.Fields)] {
		one.Fields[:cap(one.Fields)][i] = api.Field{}
	}
	if want := fields("A: b", "C: d", "Age: 3", "Via: 1.1 other"); !slices.Equal(other.Fields, want) {
		t.Errorf("the second response has the fields %v", other.Fields)
	}
}

// checkSendable expects this, and that the entry is not changed.
func checkSendable(t *testing.T, e api.Entry, name string, want bool) {
	t.Helper()
	e = roomyEntry(e)
	before := whole(e)
	if got := entry.Sendable(e, name); got != want {
		t.Errorf("Sendable(%s, %.60q) = %v", shortened(e), name, got)
	}
	if !reflect.DeepEqual(whole(e), before) {
		t.Errorf("Sendable has changed its argument to %s", shortened(e))
	}
}

// numbered returns count lines of a field.
func numbered(count int) []api.Field {
	var l []api.Field
	for i := range count {
		l = append(l, api.Field{Name: "F" + strconv.Itoa(i), Value: "v"})
	}
	return l
}

// Promise 26.3, Sendable

func TestSendable(t *testing.T) {
	checkSendable(t, api.Entry{}, "p", true)
	checkSendable(t, api.Entry{Reason: "OK", Fields: fields("Date: x", "Age: 5"), Body: "abc"}, "vp", true)
	checkSendable(t, api.Entry{Keys: keysOf("\r\n"), Vary: []string{"\x00"}, Snapshot: []string{"\r"}}, "p", true)
	// The times do not matter.
	checkSendable(t, api.Entry{Requested: 20, Received: 10}, "p", true)
	checkSendable(t, api.Entry{Requested: math.MinInt64, Received: math.MaxInt64}, "p", true)
}

func TestSendableReasonsAndNames(t *testing.T) {
	for c := range 256 {
		text := "a" + string([]byte{byte(c)}) + "a"
		isText := c == '\t' || c >= ' ' && c != 0x7f
		checkSendable(t, api.Entry{Reason: text}, "p", isText)
		checkSendable(t, api.Entry{}, text, isText)
		checkSendable(t, api.Entry{Fields: []api.Field{{Name: "A", Value: text}}}, "p", isText)
		checkSendable(t, api.Entry{Body: text}, "p", true)
	}
	// The value of Via must not end with a space.
	for name, want := range map[string]bool{"": false, " ": false, "a ": false, "a\t": false, " a": true, "a b": true, "a,b": true, "\u00e4": true, "a\r\nB: c": false} {
		checkSendable(t, api.Entry{Reason: "OK"}, name, want)
	}
}

func TestSendableFields(t *testing.T) {
	for _, f := range []api.Field{{}, {Value: "x"}, {Name: "a b"}, {Name: "A:"}, {Name: "A", Value: " b"}, {Name: "A", Value: "b "}, {Name: "A", Value: "\x00"}, {Name: "\u00e4"}, {Name: "Age "}, {Name: "Via", Value: "\n"}} {
		checkSendable(t, api.Entry{Fields: []api.Field{f}}, "p", false)
		checkSendable(t, api.Entry{Fields: append(fields("A: b"), f)}, "p", false)
		checkSendable(t, api.Entry{Fields: append([]api.Field{f}, fields("A: b")...)}, "p", false)
	}
	// Neither old ages nor framing fields are written.
	for _, name := range []string{"Age", "AGE", "age", "Content-Length", "transfer-encoding"} {
		for _, value := range []string{"", "5", "\r\n", " x ", strings.Repeat("1", 100000)} {
			checkSendable(t, api.Entry{Fields: []api.Field{{Name: name, Value: value}, {Name: "A", Value: "b"}}}, "p", true)
		}
	}
	checkSendable(t, api.Entry{Fields: fields("Via: 1.1 p", "Via: ", "Connection: Age, Via", "TE: ", "Keep-Alive: x")}, "p", true)
}

// Of the lines of a head, those of Age, Via and Content-Length are taken.
func TestSendableNumberOfFields(t *testing.T) {
	for count := range 130 {
		l := numbered(count)
		checkSendable(t, api.Entry{Fields: l}, "p", count <= api.MaxFields-3)
		l = slices.Concat(fields("Age: 1", "age: 2", "Content-Length: 3"), l, fields("Transfer-Encoding: x", "AGE: 4"))
		checkSendable(t, api.Entry{Fields: l}, "p", count <= api.MaxFields-3)
	}
}

func TestSendableLengths(t *testing.T) {
	for _, more := range []int{-2, -1, 0, 1, 2, 1000} {
		checkSendable(t, api.Entry{Body: strings.Repeat("b", api.MaxBody+more)}, "p", more <= 0)
		checkSendable(t, api.Entry{Reason: strings.Repeat("r", api.MaxLine-len("HTTP/1.1 200 ")+more)}, "p", more <= 0)
		checkSendable(t, api.Entry{}, strings.Repeat("n", api.MaxLine-len("Via: 1.1 ")+more), more <= 0)
		checkSendable(t, api.Entry{Fields: []api.Field{{Name: "A", Value: strings.Repeat("v", api.MaxLine-len("A: ")+more)}}}, "p", more <= 0)
	}
}

// filledEntry returns an entry of which the head has this many bytes if its age has ten
// digits, its body 4 bytes, and the name of the proxy is vp.
func filledEntry(head int) api.Entry {
	e := api.Entry{Reason: "OK", Body: "body"}
	room := head - len("HTTP/1.1 200 OK\r\nAge: 2147483647\r\nVia: 1.1 vp\r\nContent-Length: 4\r\n\r\n")
	for room > 0 {
		line := min(room, 1900)
		if rest := room - line; 0 < rest && rest < 100 {
			line -= 100
		}
		room -= line
		e.Fields = append(e.Fields, api.Field{Name: "F", Value: strings.Repeat("v", line-len("F: \r\n"))})
	}
	return e
}

// The head must have room for the greatest age, also if the age is still small.
func TestSendableHeads(t *testing.T) {
	for head := api.MaxHead - 30; head <= api.MaxHead+30; head++ {
		e := filledEntry(head)
		checkSendable(t, e, "vp", head <= api.MaxHead)
		checkSendable(t, e, "v", head-1 <= api.MaxHead)
		checkSendable(t, e, "vpx", head+1 <= api.MaxHead)
		e.Fields = append(e.Fields, fields("Age: 1", "Content-Length: 4", "age: 22")...)
		checkSendable(t, e, "vp", head <= api.MaxHead)
		e.Body += "123456"
		checkSendable(t, e, "vp", head+1 <= api.MaxHead)
		// What has an age of one digit can be written longer.
		if young := message.FormatResponse(entry.Response(filledEntry(head), 5, "vp"), "GET"); (young != "") != (head-9 <= api.MaxHead) {
			t.Errorf("a head of %d bytes is written as %.80q", head-9, young)
		}
	}
}

// What is sendable can be written at any time, and is read as it was.
func TestSendableIsWritten(t *testing.T) {
	for head := api.MaxHead - 12; head <= api.MaxHead; head++ {
		e := filledEntry(head)
		for now := int64(1); now < 1<<42; now *= 3 {
			r := entry.Response(e, now, "vp")
			s := message.FormatResponse(r, "GET")
			got, count, errno := message.ParseResponse(s, "GET", false)
			if s == "" || errno != api.OK || count != len(s) || !reflect.DeepEqual(got, r) {
				t.Errorf("at %d, the response for an entry with a head of %d bytes is written as %.80q", now, head, s)
			}
			if message.FormatResponse(r, "HEAD") == "" {
				t.Errorf("at %d, the response for an entry with a head of %d bytes is not written without a body", now, head)
			}
		}
	}
}
