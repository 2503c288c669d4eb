package message_test

import (
	"fmt"
	"reflect"
	"slices"
	"strings"
	"testing"

	"variantproxy/api"
	"variantproxy/chunk"
	"variantproxy/message"
)

func single(b int) string {
	return string([]byte{byte(b)})
}

// fields returns the fields with these names and values.
func fields(pairs ...string) []api.Field {
	var list []api.Field
	for i := 0; i < len(pairs); i += 2 {
		list = append(list, api.Field{Name: pairs[i], Value: pairs[i+1]})
	}
	return list
}

func checkRequest(t *testing.T, s string, request api.Request, count int) {
	t.Helper()
	if got, want := gotRequest(s), (expectedRequest{request, count, api.OK}); !reflect.DeepEqual(got, want) {
		t.Errorf("ParseRequest(%s) = %s and not %s", show(s), show(got), show(want))
	}
}

// refuseRequest expects that all other results are zero.
func refuseRequest(t *testing.T, s string, errno api.Errno) {
	t.Helper()
	if got, want := gotRequest(s), (expectedRequest{errno: errno}); !reflect.DeepEqual(got, want) {
		t.Errorf("ParseRequest(%s) = %s and not %d", show(s), show(got), errno)
	}
}

func checkResponse(t *testing.T, s, method string, closed bool, response api.Response, count int) {
	t.Helper()
	if got, want := gotResponse(s, method, closed), (expectedResponse{response, count, api.OK}); !reflect.DeepEqual(got, want) {
		t.Errorf("ParseResponse(%s, %q, %v) = %s and not %s", show(s), method, closed, show(got), show(want))
	}
}

// refuseResponse expects that all other results are zero.
func refuseResponse(t *testing.T, s, method string, closed bool, errno api.Errno) {
	t.Helper()
	if got, want := gotResponse(s, method, closed), (expectedResponse{errno: errno}); !reflect.DeepEqual(got, want) {
		t.Errorf("ParseResponse(%s, %q, %v) = %s and not %d", show(s), method, closed, show(got), errno)
	}
}

// contents is what both kinds of messages have.
type contents struct {
	fields []api.Field
	body   string
	count  int
	errno  api.Errno
}

// A kind is a kind of messages: a start line, and how messages with it are read.
type kind struct {
	name, start string
	parse       func(s string) contents
}

func requests(start string) kind {
	return kind{"request", start + "\r\n", func(s string) contents {
		got := gotRequest(s)
		return contents{got.request.Fields, got.request.Body, got.count, got.errno}
	}}
}

func responses(start, method string, closed bool) kind {
	name := fmt.Sprintf("response to %s, closed %v", method, closed)
	return kind{name, start + "\r\n", func(s string) contents {
		got := gotResponse(s, method, closed)
		return contents{got.response.Fields, got.response.Body, got.count, got.errno}
	}}
}

// unframedKinds are those that end with a head without framing fields.
func unframedKinds() []kind {
	return []kind{
		requests("GET / HTTP/1.0"),
		responses("HTTP/1.1 200 OK", "GET", true),
		responses("HTTP/1.1 200 OK", "HEAD", false),
		responses("HTTP/1.1 304 Not Modified", "GET", false),
	}
}

// framedKinds are those of which the framing fields tell the body.
func framedKinds() []kind {
	return []kind{
		requests("GET / HTTP/1.0"),
		requests("POST /a?b HTTP/1.0"),
		responses("HTTP/1.1 200 OK", "GET", true),
		responses("HTTP/1.0 404 Not Found", "POST", false),
		responses("HTTP/1.1 599 ", "head", false),
	}
}

// bodilessKinds are those that have no body.
func bodilessKinds() []kind {
	return []kind{
		responses("HTTP/1.1 200 OK", "HEAD", true),
		responses("HTTP/1.1 200 OK", "HEAD", false),
		responses("HTTP/1.1 100 Continue", "GET", true),
		responses("HTTP/1.0 199 ", "POST", false),
		responses("HTTP/1.1 204 No Content", "GET", true),
		responses("HTTP/1.1 304 Not Modified", "GET", false),
	}
}

// check reads the start line of the kind followed by rest.
func (k kind) check(t *testing.T, rest string, want contents) {
	t.Helper()
	if got := k.parse(k.start + rest); !reflect.DeepEqual(got, want) {
		t.Errorf("%s: %s is read as %s and not %s", k.name, show(k.start+rest), show(got), show(want))
	}
}

func (k kind) refuse(t *testing.T, rest string, errno api.Errno) {
	t.Helper()
	k.check(t, rest, contents{errno: errno})
}

// checkAll expects that all of rest is read, and nothing after it.
func (k kind) checkAll(t *testing.T, rest string, list []api.Field, body string) {
	t.Helper()
	k.check(t, rest, contents{list, body, len(k.start + rest), api.OK})
	for _, more := range []string{"x", "\r\n", "\n", "\x00", k.start + rest} {
		k.check(t, rest+more, contents{list, body, len(k.start + rest), api.OK})
	}
}

// Promise 6.1

func TestHeadsOfSeveralLines(t *testing.T) {
	for lines, list := range map[string][]api.Field{
		"":                                nil,
		"A: b\r\n":                        fields("A", "b"),
		"A:b\r\nA:  c \r\na:\r\n":         fields("A", "b", "A", "c", "a", ""),
		"B: 1\r\nA: 2\r\nB: 3\r\n":        fields("B", "1", "A", "2", "B", "3"),
		"!#$: \"a, b\"\xff\t(c)\r\n":      fields("!#$", "\"a, b\"\xff\t(c)"),
		"Content-Lengths: x\r\n":          fields("Content-Lengths", "x"),
		"Transfer-Encodin: y\r\nTE:1\r\n": fields("Transfer-Encodin", "y", "TE", "1"),
		"Host: H:80\r\n":                  fields("Host", "H:80"),
	} {
		for _, k := range unframedKinds() {
			k.check(t, lines+"\r\n", contents{list, "", len(k.start+lines) + 2, api.OK})
		}
	}
}

func TestHeadsOfEveryPrefix(t *testing.T) {
	for _, k := range unframedKinds() {
		whole := k.start + "A: b\r\nLong: " + strings.Repeat("x", 100) + "\r\n\r\n"
		for count := range len(whole) {
			if got := k.parse(whole[:count]); !reflect.DeepEqual(got, contents{errno: api.ErrShort}) {
				t.Errorf("%s: %s is read as %s", k.name, show(whole[:count]), show(got))
			}
		}
	}
}

func TestHeadsWithMalformedLines(t *testing.T) {
	for lines, errno := range map[string]api.Errno{
		"A\r\n\r\n":                api.ErrSyntax,
		"A: b\r\n c\r\n\r\n":       api.ErrSyntax,
		"A : b\r\n\r\n":            api.ErrSyntax,
		": b\r\n\r\n":              api.ErrSyntax,
		" \r\n\r\n":                api.ErrSyntax,
		"A: b\x00\r\n\r\n":         api.ErrSyntax,
		"A: b\n\r\n":               api.ErrSyntax,
		"A: b\r\r\n":               api.ErrSyntax,
		"A: b\rB: c\r\n\r\n":       api.ErrSyntax,
		"A: b\r\n\n":               api.ErrSyntax,
		"\n":                       api.ErrSyntax,
		"\rx":                      api.ErrSyntax,
		"Content-Length\r\n\r\n":   api.ErrSyntax,
		"Content-Length : 1\r\n\r": api.ErrSyntax,
		"A\r\nB: c":                api.ErrSyntax, // the first error from the left
		"A: b\r\nC":                api.ErrShort,
		"A\r":                      api.ErrShort,
		"\r":                       api.ErrShort,
	} {
		for _, k := range unframedKinds() {
			k.refuse(t, lines, errno)
		}
	}
}

func TestHeadsWithLongLines(t *testing.T) {
	value := strings.Repeat("v", api.MaxLine-len("A: "))
	for _, k := range unframedKinds() {
		k.check(t, "A: "+value+"\r\n\r\n", contents{fields("A", value), "", len(k.start+value) + 7, api.OK})
		k.refuse(t, "A: "+value+"v\r\n\r\n", api.ErrLong)
		k.refuse(t, "A: "+value+"v", api.ErrLong)
		k.refuse(t, "A: "+value+"v\n", api.ErrLong)
		k.refuse(t, "A:"+value+"v\r\n\r\n", api.ErrLong) // its formatted line would be too long
		k.refuse(t, "A:"+value+"v", api.ErrShort)
		k.refuse(t, "\x00"+value+"vvv\r\n", api.ErrLong)
		k.refuse(t, "\x00"+value+"vv\r\n", api.ErrSyntax)
		k.refuse(t, "A\r\nA: "+value+"v", api.ErrSyntax)
		k.refuse(t, strings.Repeat("v", 10*api.MaxHead), api.ErrLong)
	}
}

func TestStartLinesOfRequests(t *testing.T) {
	target := strings.Repeat("t", api.MaxLine-len("GET  HTTP/1.0"))
	checkRequest(t, "GET "+target+" HTTP/1.0\r\n\r\n", api.Request{Method: "GET", Target: target}, api.MaxLine+4)
	checkRequest(t, "a * HTTP/1.0\r\n\r\n", api.Request{Method: "a", Target: "*"}, 16)
	for s, errno := range map[string]api.Errno{
		"":                               api.ErrShort,
		"GET / HTTP/2.0":                 api.ErrShort,
		"GET / HTTP/1.0\r":               api.ErrShort,
		"GET / HTTP/2.0\r\n":             api.ErrVersion,
		"GET / HTTP/1.2\r\nA":            api.ErrVersion,
		"GET / HTTP/2.0\r\nA\r\n\r\n":    api.ErrVersion,
		"GET / HTTP/2.0\n\r\n":           api.ErrSyntax,
		"GET / HTTP/2.0\rx":              api.ErrSyntax,
		"GET  / HTTP/1.0\r\n\r\n":        api.ErrSyntax,
		"GET /\r\n\r\n":                  api.ErrSyntax,
		"\r\n":                           api.ErrSyntax,
		"\r\nGET / HTTP/1.0\r\n\r\n":     api.ErrSyntax,
		"\n":                             api.ErrSyntax,
		"HTTP/1.1 200 OK\r\n\r\n":        api.ErrSyntax,
		"A: b\r\nGET / HTTP/1.0\r\n":     api.ErrSyntax,
		"GET " + target + "t HTTP/1.0":   api.ErrLong,
		"GET " + target + "t HTTP/9\r\n": api.ErrSyntax,
		"GET " + target + "t HTTP/2.0\n": api.ErrLong,
	} {
		refuseRequest(t, s, errno)
	}
}

func TestStartLinesOfResponses(t *testing.T) {
	reason := strings.Repeat("r", api.MaxLine-len("HTTP/1.0 200 "))
	for _, closed := range []bool{false, true} {
		checkResponse(t, "HTTP/1.0 200 "+reason+"\r\n\r\n", "HEAD", closed, api.Response{Status: 200, Reason: reason}, api.MaxLine+4)
		checkResponse(t, "HTTP/1.1 304  a b\t\r\n\r\n", "GET", closed, api.Response{Minor: 1, Status: 304, Reason: " a b\t"}, 22)
		for s, errno := range map[string]api.Errno{
			"":                                  api.ErrShort,
			"HTTP/2.0 304 ":                     api.ErrShort,
			"HTTP/1.0 304 \r":                   api.ErrShort,
			"HTTP/2.0 304 \r\n":                 api.ErrVersion,
			"HTTP/1.2 304 \r\nA":                api.ErrVersion,
			"HTTP/2.0 304 \r\nA\r\n\r\n":        api.ErrVersion,
			"HTTP/2.0 304 \n\r\n":               api.ErrSyntax,
			"HTTP/1.1 304\r\n\r\n":              api.ErrSyntax,
			"HTTP/1.1 600 \r\n\r\n":             api.ErrSyntax,
			"HTTP/1.1 099 \r\n\r\n":             api.ErrSyntax,
			"\r\n":                              api.ErrSyntax,
			"\r\nHTTP/1.1 304 \r\n\r\n":         api.ErrSyntax,
			"GET / HTTP/1.0\r\n\r\n":            api.ErrSyntax,
			"HTTP/1.0 200 " + reason + "r":      api.ErrLong,
			"HTTP/2.0 200 " + reason + "r\n":    api.ErrLong,
			"HTTP/2.0 200 " + reason + "\r\n":   api.ErrVersion,
			"HTTP/1.0 200 " + reason + "\r":     api.ErrShort,
			"HTTP/1.0 " + reason + "\r\n200 \r": api.ErrSyntax,
		} {
			refuseResponse(t, s, "GET", closed, errno)
		}
	}
}

// filledLines returns field lines with this number of bytes, and their fields.
func filledLines(count int) (string, []api.Field) {
	var lines strings.Builder
	var list []api.Field
	for count > 0 {
		size := min(count, 1000)
		if count > 1000 && count < 1010 {
			size = 500 // so that enough is left for the next line
		}
		value := strings.Repeat("v", size-len("A: \r\n"))
		lines.WriteString("A: " + value + "\r\n")
		list = append(list, api.Field{Name: "A", Value: value})
		count -= size
	}
	return lines.String(), list
}

func TestLongHeads(t *testing.T) {
	for _, k := range unframedKinds() {
		room := api.MaxHead - len(k.start)
		lines, list := filledLines(room - 2)
		k.check(t, lines+"\r\n", contents{list, "", api.MaxHead, api.OK})
		// One byte more, which is first found at the empty line.
		lines, _ = filledLines(room - 1)
		k.refuse(t, lines+"\r\n", api.ErrLong)
		k.refuse(t, lines+"\r", api.ErrShort)
		k.refuse(t, lines+"\n", api.ErrSyntax)
		lines, _ = filledLines(room)
		k.refuse(t, lines+"\r\n", api.ErrLong)
		k.refuse(t, lines+"B:\r\n", api.ErrLong)
		k.refuse(t, lines, api.ErrShort)
		// At a field line, the limit is judged after the errors of the line and
		// before those of the field.
		lines, _ = filledLines(room + 1)
		k.refuse(t, lines, api.ErrLong)
		k.refuse(t, lines+"\n", api.ErrLong)
		k.refuse(t, lines[:len(lines)-1], api.ErrShort)
		k.refuse(t, lines[:len(lines)-2]+"\n", api.ErrSyntax)
		lines, _ = filledLines(room - 100)
		k.refuse(t, lines+strings.Repeat("x", 98)+"\r\n", api.ErrSyntax)
		k.refuse(t, lines+strings.Repeat("x", 99)+"\r\n", api.ErrLong)
		k.refuse(t, lines+strings.Repeat("x", 99), api.ErrShort)
		k.refuse(t, lines+strings.Repeat("x", api.MaxLine)+"\n", api.ErrSyntax)
		k.refuse(t, lines+strings.Repeat("x", api.MaxLine+1)+"\n", api.ErrLong)
	}
}

func TestLongHeadsBeforeBodies(t *testing.T) {
	body := mixedBytes(api.MaxBody)
	for _, k := range framedKinds() {
		length := fmt.Sprintf("Content-Length: %d\r\n", len(body))
		lines, list := filledLines(api.MaxHead - len(k.start+length) - 2)
		k.checkAll(t, lines+length+"\r\n"+body, list, body)
		k.checkAll(t, length+lines+"\r\n"+body, list, body)
		k.refuse(t, " "+lines+length+"\r\n"+body, api.ErrSyntax)
		lines, _ = filledLines(api.MaxHead - len(k.start+length) - 1)
		k.refuse(t, lines+length+"\r\n"+body, api.ErrLong)
		k.refuse(t, length+lines+"\r\n"+body, api.ErrLong)
	}
}

func TestManyFields(t *testing.T) {
	for _, k := range unframedKinds() {
		full := strings.Repeat("A: b\r\n", api.MaxFields)
		list := slices.Repeat(fields("A", "b"), api.MaxFields)
		k.check(t, full+"\r\n", contents{list, "", len(k.start+full) + 2, api.OK})
		for more, errno := range map[string]api.Errno{
			"A: b\r\n\r\n":         api.ErrLong,
			"A: b\r\n":             api.ErrLong,
			"malformed\r\n\r\n":    api.ErrLong,
			"Content-Length:1\r\n": api.ErrLong,
			" \r\n":                api.ErrLong,
			"":                     api.ErrShort,
			"\r":                   api.ErrShort,
			"A: b":                 api.ErrShort,
			"A: b\n":               api.ErrSyntax,
			"\n":                   api.ErrSyntax,
		} {
			k.refuse(t, full+more, errno)
		}
		// The framing fields are field lines, too.
		for _, framing := range []string{"Content-Length: 0\r\n", "Transfer-Encoding: chunked\r\n"} {
			k.refuse(t, framing+full+"\r\n0\r\n\r\n", api.ErrLong)
			k.refuse(t, full+framing+"\r\n0\r\n\r\n", api.ErrLong)
		}
	}
	for _, k := range framedKinds() {
		almostFull := strings.Repeat("A: b\r\n", api.MaxFields-1)
		list := slices.Repeat(fields("A", "b"), api.MaxFields-1)
		k.checkAll(t, almostFull+"Content-Length: 1\r\n\r\nx", list, "x")
		k.checkAll(t, "Transfer-Encoding: chunked\r\n"+almostFull+"\r\n1\r\nx\r\n0\r\n\r\n", list, "x")
	}
}

// Promise 6.2

func TestFramingFieldsAreNoFields(t *testing.T) {
	for _, k := range framedKinds() {
		list := fields("A", "1", "B", "2", "a", "3")
		for _, name := range []string{"Content-Length", "content-length", "CONTENT-LENGTH", "cOnTeNt-LeNgTh"} {
			k.checkAll(t, name+": 2\r\nA: 1\r\nB: 2\r\na: 3\r\n\r\nxy", list, "xy")
			k.checkAll(t, "A: 1\r\nB: 2\r\n"+name+":2\r\na: 3\r\n\r\nxy", list, "xy")
			k.checkAll(t, "A: 1\r\nB: 2\r\na: 3\r\n"+name+":\t2 \r\n\r\nxy", list, "xy")
		}
		for _, name := range []string{"Transfer-Encoding", "transfer-encoding", "TRANSFER-ENCODING", "tRaNsFeR-eNcOdInG"} {
			for _, value := range []string{"chunked", "CHUNKED", "Chunked", " \tcHuNkEd\t "} {
				k.checkAll(t, name+":"+value+"\r\nA: 1\r\nB: 2\r\na: 3\r\n\r\n2\r\nxy\r\n0\r\n\r\n", list, "xy")
				k.checkAll(t, "A: 1\r\nB: 2\r\na: 3\r\n"+name+":"+value+"\r\n\r\n2\r\nxy\r\n0\r\nC: 4\r\n\r\n", list, "xy")
			}
		}
	}
	for _, k := range bodilessKinds() {
		for _, framing := range []string{"Content-Length: 2\r\n", "Transfer-Encoding: chunked\r\n", "transfer-encoding:CHUNKED\r\n", "content-length:999999999\r\n"} {
			k.checkAll(t, "A: 1\r\n"+framing+"B: 2\r\n\r\n", fields("A", "1", "B", "2"), "")
		}
	}
}

func TestErrorsOfCodings(t *testing.T) {
	for _, lines := range []string{
		"Transfer-Encoding:\r\n",
		"Transfer-Encoding: gzip\r\n",
		"Transfer-Encoding: identity\r\n",
		"Transfer-Encoding: gzip, chunked\r\n",
		"Transfer-Encoding: chunked, chunked\r\n",
		"Transfer-Encoding: chunked,\r\n",
		"Transfer-Encoding: ,chunked\r\n",
		"Transfer-Encoding: chunked;a=b\r\n",
		"Transfer-Encoding: \"chunked\"\r\n",
		"Transfer-Encoding: chunke\r\n",
		"Transfer-Encoding: chunkedd\r\n",
		"Transfer-Encoding: chun\xe2\x84\xaaed\r\n",
		"transfer-ENCODING: x\r\n",
		"Transfer-Encoding: chunked\r\nTransfer-Encoding: chunked\r\n",
		"Transfer-Encoding: chunked\r\ntransfer-encoding: gzip\r\n",
		"TRANSFER-ENCODING: gzip\r\nTransfer-Encoding: chunked\r\n",
		"Transfer-Encoding: chunked\r\nTransfer-Encoding:\r\n",
	} {
		for _, k := range append(framedKinds(), bodilessKinds()...) {
			k.refuse(t, lines+"\r\n0\r\n\r\n", api.ErrCoding)
			k.refuse(t, "A: b\r\n"+lines+"\r\n", api.ErrCoding)
			// It comes before all errors of lengths, hosts and bodies.
			k.refuse(t, lines+"Content-Length: 1\r\n\r\nx", api.ErrCoding)
			k.refuse(t, "Content-Length: x\r\n"+lines+"\r\n", api.ErrCoding)
			k.refuse(t, "Content-Length: 1\r\nContent-Length: 1\r\n"+lines+"\r\n", api.ErrCoding)
			k.refuse(t, "Host: a\r\nHost: b\r\n"+lines+"\r\ng", api.ErrCoding)
			k.refuse(t, "Content-Length: 100001\r\n"+lines+"\r\n", api.ErrCoding)
			// It comes after all errors of the head.
			k.refuse(t, lines, api.ErrShort)
			k.refuse(t, lines+"A\r\n\r\n", api.ErrSyntax)
			k.refuse(t, lines+strings.Repeat("A:\r\n", api.MaxFields)+"\r\n", api.ErrLong)
		}
	}
	refuseRequest(t, "GET / HTTP/1.1\r\nTransfer-Encoding: gzip\r\n\r\n", api.ErrCoding)
}

func TestErrorsOfLengths(t *testing.T) {
	chunked := "0\r\n\r\n"
	for _, lines := range []string{
		"Content-Length: 1\r\nTransfer-Encoding: chunked\r\n",
		"Transfer-Encoding: Chunked\r\nContent-Length: 0\r\n",
		"Transfer-Encoding: chunked\r\ncontent-length: x\r\n",
		"Content-Length: 999999999\r\nTransfer-Encoding: chunked\r\n",
		"Content-Length: 1\r\nContent-Length: 1\r\nTransfer-Encoding: chunked\r\n",
		"Content-Length: 0\r\nContent-Length: 0\r\n",
		"Content-Length: 1\r\ncontent-length: 1\r\n",
		"Content-Length: 1\r\nCONTENT-LENGTH: 2\r\n",
		"Content-Length: 1\r\nA: b\r\nContent-Length:\r\n",
		"Content-Length:\r\n",
		"Content-Length: -1\r\n",
		"Content-Length: +1\r\n",
		"Content-Length: 1,1\r\n",
		"Content-Length: 1, 1\r\n",
		"Content-Length: 1 1\r\n",
		"Content-Length: 1.\r\n",
		"Content-Length: 0x1\r\n",
		"Content-Length: 1e1\r\n",
		"Content-Length: \"1\"\r\n",
		"Content-Length: 1;\r\n",
		"Content-Length: a\r\n",
		"Content-Length: \xd9\xa1\r\n",
		"Content-Length: 0000000001\r\n",
		"Content-Length: 0000000000\r\n",
		"Content-Length: 1000000000\r\n",
		"Content-Length: 9999999999\r\n",
		"Content-Length: 99999999999999999999999999\r\n",
		"CONTENT-length: x\r\n",
	} {
		for _, k := range append(framedKinds(), bodilessKinds()...) {
			k.refuse(t, lines+"\r\nx", api.ErrLength)
			k.refuse(t, "A: b\r\n"+lines+"\r\n"+chunked, api.ErrLength)
			// It comes before all errors of hosts and bodies.
			k.refuse(t, "Host: a\r\nHost: b\r\n"+lines+"\r\n", api.ErrLength)
			k.refuse(t, lines+"\r\n", api.ErrLength)
			k.refuse(t, lines+"\r\ng\r\n", api.ErrLength)
			// It comes after all errors of the head.
			k.refuse(t, lines, api.ErrShort)
			k.refuse(t, lines+"A\r\n\r\n", api.ErrSyntax)
			k.refuse(t, lines+strings.Repeat("A:\r\n", api.MaxFields)+"\r\n", api.ErrLong)
		}
	}
	refuseRequest(t, "GET / HTTP/1.1\r\nContent-Length: x\r\n\r\n", api.ErrLength)
}

func TestLengthsOfEveryByte(t *testing.T) {
	body := strings.Repeat("d", 100)
	for b := range 256 {
		if b == '\r' || b == '\n' || b == '\t' || b == ' ' {
			continue
		}
		value := single(b)
		errno := api.ErrSyntax
		if b >= 32 && b != 127 {
			errno = api.ErrLength
		}
		for _, k := range framedKinds() {
			if b < '0' || b > '9' {
				k.refuse(t, "Content-Length: "+value+"\r\n\r\n"+body, errno)
				k.refuse(t, "Content-Length: 1"+value+"\r\n\r\n"+body, errno)
				k.refuse(t, "Content-Length: "+value+"1\r\n\r\n"+body, errno)
				continue
			}
			digit := int(b - '0')
			k.checkAll(t, "Content-Length: "+value+"\r\n\r\n"+body[:digit], nil, body[:digit])
			k.checkAll(t, "Content-Length: 1"+value+"\r\n\r\n"+body[:10+digit], nil, body[:10+digit])
			k.checkAll(t, "Content-Length: 00000000"+value+"\r\n\r\n"+body[:digit], nil, body[:digit])
			k.checkAll(t, "Content-Length: "+value+"0\r\n\r\n"+body[:10*digit], nil, body[:10*digit])
		}
	}
}

func TestHostsOfRequests(t *testing.T) {
	for lines, list := range map[string][]api.Field{
		"Host: a\r\n":                  fields("Host", "a"),
		"Host:\r\n":                    fields("Host", ""),
		"hOST: a b,c\r\n":              fields("hOST", "a b,c"), // the value is not looked at
		"A: b\r\nHOST: \xff\r\nB:\r\n": fields("A", "b", "HOST", "\xff", "B", ""),
	} {
		for minor := range 2 {
			start := fmt.Sprintf("GET / HTTP/1.%d\r\n", minor)
			checkRequest(t, start+lines+"\r\n", api.Request{Method: "GET", Target: "/", Minor: minor, Fields: list}, len(start+lines)+2)
			for _, more := range []string{"Host: a\r\n", "host:\r\n", "Host: a\r\nHOST: a\r\n"} {
				refuseRequest(t, start+lines+more+"\r\n", api.ErrHost)
				refuseRequest(t, start+more+lines+"\r\n", api.ErrHost)
			}
		}
	}
	checkRequest(t, "GET / HTTP/1.0\r\n\r\n", api.Request{Method: "GET", Target: "/"}, 18)
	checkRequest(t, "GET / HTTP/1.0\r\nHosts: a\r\n\r\n", api.Request{Method: "GET", Target: "/", Fields: fields("Hosts", "a")}, 28)
	for _, lines := range []string{"", "A: b\r\n", "Hosts: a\r\nHos: a\r\nX-Host: a\r\n", "Content-Length: 0\r\n"} {
		refuseRequest(t, "GET / HTTP/1.1\r\n"+lines+"\r\n", api.ErrHost)
		refuseRequest(t, "GET http://a/ HTTP/1.1\r\n"+lines+"\r\n", api.ErrHost)
	}
	// It comes before all errors of bodies.
	for _, hosts := range []string{"", "Host: a\r\nHost: a\r\n"} {
		refuseRequest(t, "GET / HTTP/1.1\r\n"+hosts+"Content-Length: 100001\r\n\r\n", api.ErrHost)
		refuseRequest(t, "GET / HTTP/1.1\r\n"+hosts+"Content-Length: 1\r\n\r\n", api.ErrHost)
		refuseRequest(t, "GET / HTTP/1.1\r\n"+hosts+"Transfer-Encoding: chunked\r\n\r\ng\r\n", api.ErrHost)
		refuseRequest(t, "GET / HTTP/1.1\r\n"+hosts+"Transfer-Encoding: chunked\r\n\r\n", api.ErrHost)
	}
	refuseRequest(t, "GET / HTTP/1.1\r\nA: b\r\n", api.ErrShort)
	refuseRequest(t, "GET / HTTP/1.1\r\nHost: a\r\nHost: b\r\nA\r\n\r\n", api.ErrSyntax)
}

func TestHostsOfResponsesAreNotCounted(t *testing.T) {
	for _, k := range framedKinds()[2:] {
		k.checkAll(t, "Content-Length: 1\r\n\r\nx", nil, "x")
		k.checkAll(t, "Host: a\r\nHost: b\r\nContent-Length: 1\r\n\r\nx", fields("Host", "a", "Host", "b"), "x")
	}
}

// Promise 6.3

func TestRequestsWithoutFraming(t *testing.T) {
	start := "GET / HTTP/1.1\r\nHost: a\r\n\r\n"
	want := api.Request{Method: "GET", Target: "/", Minor: 1, Fields: fields("Host", "a")}
	for _, more := range []string{"", "x", "\r\n", "\n", "0\r\n\r\n", start, strings.Repeat("x", api.MaxBody+1)} {
		checkRequest(t, start+more, want, len(start))
	}
	for _, method := range []string{"POST", "PUT", "PATCH", "HEAD", "CONNECT", "get", "*"} {
		s := method + " /b HTTP/1.0\r\n\r\n"
		checkRequest(t, s+"more", api.Request{Method: method, Target: "/b"}, len(s))
	}
}

func TestRequestsOfEveryMethodHaveBodies(t *testing.T) {
	for _, method := range []string{"GET", "HEAD", "POST", "PUT", "PATCH", "DELETE", "OPTIONS", "TRACE", "CONNECT", "x"} {
		want := api.Request{Method: method, Target: "http://a/?", Body: "abc"}
		s := method + " http://a/? HTTP/1.0\r\nContent-Length: 3\r\n\r\nabc"
		checkRequest(t, s, want, len(s))
		checkRequest(t, s+"d", want, len(s))
		s = method + " http://a/? HTTP/1.0\r\nTransfer-Encoding: chunked\r\n\r\n1\r\na\r\n2\r\nbc\r\n0\r\n\r\n"
		checkRequest(t, s, want, len(s))
		checkRequest(t, s+"d", want, len(s))
	}
}

func mixedBytes(count int) string {
	body := make([]byte, count)
	for i := range body {
		body[i] = byte(i*7 + i>>8)
	}
	return string(body)
}

func TestCountedBodies(t *testing.T) {
	for _, k := range framedKinds() {
		for _, body := range []string{"", "a", "\r\n", "\r\n\r\n", "\n", "\x00\xff\xc3\xa4", "0\r\n\r\n", mixedBytes(300), mixedBytes(api.MaxBody - 1), mixedBytes(api.MaxBody)} {
			line := fmt.Sprintf("Content-Length: %d\r\n", len(body))
			k.checkAll(t, line+"\r\n"+body, nil, body)
			k.checkAll(t, fmt.Sprintf("A:\r\nContent-Length: %09d\r\n\r\n", len(body))+body, fields("A", ""), body)
			if body != "" {
				k.refuse(t, line+"\r\n"+body[1:], api.ErrShort)
				k.refuse(t, line+"\r\n", api.ErrShort)
			}
		}
		for _, length := range []int{api.MaxBody + 1, api.MaxBody + 2, 2 * api.MaxBody, 1 << 20, 999999999} {
			line := fmt.Sprintf("Content-Length: %d\r\n\r\n", length)
			k.refuse(t, line, api.ErrBody) // and not ErrShort
			k.refuse(t, line+"x", api.ErrBody)
			k.refuse(t, line+strings.Repeat("x", 2*api.MaxBody), api.ErrBody)
		}
		k.refuse(t, "Content-Length: 100000\r\n\r\n", api.ErrShort)
	}
}

func TestChunkedBodies(t *testing.T) {
	for _, k := range framedKinds() {
		head := "Transfer-Encoding: chunked\r\n\r\n"
		for _, body := range []string{"", "a", "\r\n", "\x00\xff\xc3\xa4", "0\r\n\r\n", mixedBytes(300), mixedBytes(api.MaxBody)} {
			for _, size := range []int{0, 1, 7, 1000} {
				k.checkAll(t, head+chunk.Encode(body, size), nil, body)
			}
		}
		for body, errno := range map[string]api.Errno{
			"":                        api.ErrShort,
			"0\r\n":                   api.ErrShort,
			"3\r\nab":                 api.ErrShort,
			"0\r\nA: b\r\n":           api.ErrShort,
			"g\r\n":                   api.ErrSyntax,
			"\r\n":                    api.ErrSyntax,
			"3\r\nabcd":               api.ErrSyntax,
			"0\r\nA\r\n\r\n":          api.ErrSyntax,
			"186a1\r\n":               api.ErrBody,
			"1\r\na\r\n186a0\r\n":     api.ErrBody,
			strings.Repeat("0", 2001): api.ErrLong,
			"0\r\n" + strings.Repeat("A:\r\n", api.MaxFields+1): api.ErrLong,
		} {
			k.refuse(t, head+body, errno)
		}
		// The fields and bytes of the chunks are not counted with the head.
		lines, list := filledLines(api.MaxHead - len(k.start+head))
		trailer := strings.Repeat("T: "+strings.Repeat("t", 1000)+"\r\n", api.MaxFields)
		k.checkAll(t, lines+head+"1\r\nx\r\n0\r\n"+trailer+"\r\n", list, "x")
		full := strings.Repeat("A: b\r\n", api.MaxFields-1)
		k.checkAll(t, full+head+"0\r\n"+trailer+"\r\n", slices.Repeat(fields("A", "b"), api.MaxFields-1), "")
	}
}

func TestParsedFieldsAreIndependent(t *testing.T) {
	s := "GET / HTTP/1.1\r\nHost: a\r\nContent-Length: 0\r\nB: c\r\n\r\n"
	first, _, _ := message.ParseRequest(s)
	second, _, _ := message.ParseRequest(s)
	first.Fields[0].Value = "changed"
	_ = append(first.Fields[:1], api.Field{Name: "changed"})
	if !reflect.DeepEqual(second.Fields, fields("Host", "a", "B", "c")) {
		t.Errorf("fields of another result are %v", second.Fields)
	}
}

// Promise 6.4

func TestBodiless(t *testing.T) {
	statuses := []int{-1 << 63, 1<<63 - 1, -200, 1000, 2040, 3040, 10000}
	for status := -10; status <= 700; status++ {
		statuses = append(statuses, status)
	}
	for _, status := range statuses {
		want := status >= 100 && status <= 199 || status == 204 || status == 304
		for _, method := range []string{"GET", "", "POST", "head", "Head", "HEAD ", " HEAD", "HEA", "HEADS", "CONNECT", "\xff"} {
			if got := message.Bodiless(status, method); got != want {
				t.Errorf("Bodiless(%d, %q) = %v", status, method, got)
			}
		}
		if !message.Bodiless(status, "HEAD") {
			t.Errorf("Bodiless(%d, HEAD) = false", status)
		}
	}
}

func TestBodilessResponsesEndWithTheirHead(t *testing.T) {
	for _, k := range bodilessKinds() {
		for _, lines := range []string{"", "Content-Length: 0\r\n", "Content-Length: 2\r\n", "Content-Length: 999999999\r\n", "Content-Length: 100001\r\n", "Transfer-Encoding: chunked\r\n"} {
			for _, body := range []string{"", "x", "xy", "xyz", "g\r\n", "0\r\n\r\n", "2\r\nxy\r\n0\r\n\r\n", strings.Repeat("x", api.MaxBody+1)} {
				k.check(t, lines+"A: b\r\n\r\n"+body, contents{fields("A", "b"), "", len(k.start+lines) + 8, api.OK})
			}
		}
	}
	for status := 100; status <= 599; status++ {
		s := fmt.Sprintf("HTTP/1.1 %d X\r\nContent-Length: 2\r\n\r\n", status)
		response := api.Response{Minor: 1, Status: status, Reason: "X"}
		checkResponse(t, s+"xy", "HEAD", false, response, len(s))
		if status < 200 || status == 204 || status == 304 {
			checkResponse(t, s+"xy", "GET", false, response, len(s))
			continue
		}
		response.Body = "xy"
		checkResponse(t, s+"xy", "GET", false, response, len(s)+2)
		refuseResponse(t, s+"x", "GET", true, api.ErrShort)
		refuseResponse(t, s, "head", true, api.ErrShort)
	}
}

func TestResponsesWithoutFraming(t *testing.T) {
	for _, start := range []string{"HTTP/1.1 200 OK\r\n", "HTTP/1.0 200 OK\r\nA: b\r\n", "HTTP/1.1 404 \r\nHost: a\r\nHost: b\r\n"} {
		for _, method := range []string{"GET", "POST", "head", ""} {
			for _, body := range []string{"", "x", "\r\n", "\n", "\x00\xff", "0\r\n\r\n", "HTTP/1.1 200 OK\r\n\r\n", mixedBytes(api.MaxBody - 1), mixedBytes(api.MaxBody)} {
				s := start + "\r\n" + body
				want := expectResponse(start+"\r\n", "HEAD", true).response
				want.Body = body
				checkResponse(t, s, method, true, want, len(s))
				refuseResponse(t, s, method, false, api.ErrShort)
			}
			tooLong := start + "\r\n" + mixedBytes(api.MaxBody+1)
			refuseResponse(t, tooLong, method, true, api.ErrBody)
			refuseResponse(t, tooLong, method, false, api.ErrShort)
			refuseResponse(t, start, method, true, api.ErrShort)
			refuseResponse(t, start+"\r", method, true, api.ErrShort)
		}
	}
}

func TestExamplesOfParsing(t *testing.T) {
	s := "GET / HTTP/1.1\r\nHost: a\r\n\r\nx"
	checkRequest(t, s, api.Request{Method: "GET", Target: "/", Minor: 1, Fields: fields("Host", "a")}, 27)
	refuseRequest(t, "GET / HTTP/1.1\r\nHost: a\r\nContent-Length: 1\r\nTransfer-Encoding: chunked\r\n\r\n", api.ErrLength)
}
