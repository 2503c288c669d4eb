package message_test

import (
	"fmt"
	"reflect"
	"regexp"
	"strconv"
	"strings"
	"testing"

	"variantproxy/api"
	"variantproxy/chunk"
	"variantproxy/fieldline"
	"variantproxy/message"
	"variantproxy/startline"
)

// The model reads messages with positions and expressions. It calls the lower
// layers only where the promises name their errors.

var (
	lineText   = regexp.MustCompile(`(?s)\A([^\r\n]*)(\r\n|\r\z|\z|.)`)
	lengthText = regexp.MustCompile(`\A[0-9]{1,9}\z`)
)

// expectedHead is what the head of a message tells.
type expectedHead struct {
	start            string
	fields           []api.Field // without the framing fields
	codings, lengths []string
	hosts            int
	end              int // the position after the empty line
}

// expectedRequest and expectedResponse are the results of the parsers.
type expectedRequest struct {
	request api.Request
	count   int
	errno   api.Errno
}

type expectedResponse struct {
	response api.Response
	count    int
	errno    api.Errno
}

// lineAt reads the line at a position as promise 5.2 says, and returns the
// position of the next one.
func lineAt(s string, start int) (string, int, api.Errno) {
	parts := lineText.FindStringSubmatch(s[start:])
	switch {
	case len(parts[1]) > api.MaxLine:
		return "", 0, api.ErrLong
	case parts[2] == "" || parts[2] == "\r" && start+len(parts[0]) == len(s):
		return "", 0, api.ErrShort
	case parts[2] != "\r\n":
		return "", 0, api.ErrSyntax
	}
	return parts[1], start + len(parts[0]), api.OK
}

// readExpectedHead reads a head as promise 6.1 says.
func readExpectedHead(s string, judgeStart func(string) api.Errno) (expectedHead, api.Errno) {
	var head expectedHead
	position := 0
	for number := 0; ; number++ {
		line, next, errno := lineAt(s, position)
		if errno != api.OK {
			return expectedHead{}, errno
		}
		position = next
		isField := number > 0 && line != ""
		if position > api.MaxHead || isField && number > api.MaxFields {
			return expectedHead{}, api.ErrLong
		}
		if number == 0 {
			if errno := judgeStart(line); errno != api.OK {
				return expectedHead{}, errno
			}
			head.start = line
			continue
		}
		if !isField {
			head.end = position
			return head, api.OK
		}
		field, errno := fieldline.Parse(line)
		if errno != api.OK {
			return expectedHead{}, errno
		}
		head.add(field)
	}
}

func (h *expectedHead) add(field api.Field) {
	switch strings.ToLower(field.Name) {
	case "content-length":
		h.lengths = append(h.lengths, field.Value)
		return
	case "transfer-encoding":
		h.codings = append(h.codings, field.Value)
		return
	case "host":
		h.hosts++
	}
	h.fields = append(h.fields, field)
}

// framingError returns the error of the framing fields as promise 6.2 says.
func (h *expectedHead) framingError() api.Errno {
	if len(h.codings) > 1 || len(h.codings) == 1 && strings.ToLower(h.codings[0]) != "chunked" {
		return api.ErrCoding
	}
	if len(h.lengths) > 0 && len(h.codings) > 0 || len(h.lengths) > 1 {
		return api.ErrLength
	}
	if len(h.lengths) == 1 && !lengthText.MatchString(h.lengths[0]) {
		return api.ErrLength
	}
	return api.OK
}

// framedBody returns the body that the framing fields tell, and the position
// after it.
func (h *expectedHead) framedBody(s string) (string, int, api.Errno) {
	if len(h.codings) > 0 {
		body, count, errno := chunk.Decode(s[h.end:])
		return body, h.end + count, errno
	}
	if len(h.lengths) == 0 {
		return "", h.end, api.OK
	}
	length, _ := strconv.Atoi(h.lengths[0])
	switch {
	case length > api.MaxBody:
		return "", 0, api.ErrBody
	case len(s)-h.end < length:
		return "", 0, api.ErrShort
	}
	return s[h.end : h.end+length], h.end + length, api.OK
}

// expectRequest reads a request as promise 6.3 says.
func expectRequest(s string) expectedRequest {
	head, errno := readExpectedHead(s, func(line string) api.Errno {
		_, _, _, errno := startline.ParseRequest(line)
		return errno
	})
	if errno != api.OK {
		return expectedRequest{errno: errno}
	}
	method, target, minor, _ := startline.ParseRequest(head.start)
	if errno := head.framingError(); errno != api.OK {
		return expectedRequest{errno: errno}
	}
	if head.hosts > 1 || head.hosts == 0 && minor == 1 {
		return expectedRequest{errno: api.ErrHost}
	}
	body, count, errno := head.framedBody(s)
	if errno != api.OK {
		return expectedRequest{errno: errno}
	}
	return expectedRequest{api.Request{Method: method, Target: target, Minor: minor, Fields: head.fields, Body: body}, count, api.OK}
}

// expectResponse reads a response as promise 6.4 says.
func expectResponse(s, method string, closed bool) expectedResponse {
	head, errno := readExpectedHead(s, func(line string) api.Errno {
		_, _, _, errno := startline.ParseStatus(line)
		return errno
	})
	if errno != api.OK {
		return expectedResponse{errno: errno}
	}
	minor, status, reason, _ := startline.ParseStatus(head.start)
	if errno := head.framingError(); errno != api.OK {
		return expectedResponse{errno: errno}
	}
	body, count := "", head.end
	if method != "HEAD" && status >= 200 && status != 204 && status != 304 {
		if len(head.codings)+len(head.lengths) > 0 {
			body, count, errno = head.framedBody(s)
		} else if !closed {
			errno = api.ErrShort
		} else if body, count = s[head.end:], len(s); len(body) > api.MaxBody {
			errno = api.ErrBody
		}
	}
	if errno != api.OK {
		return expectedResponse{errno: errno}
	}
	return expectedResponse{api.Response{Minor: minor, Status: status, Reason: reason, Fields: head.fields, Body: body}, count, api.OK}
}

// gotRequest is what ParseRequest returns. An empty list of fields is nil.
func gotRequest(s string) expectedRequest {
	request, count, errno := message.ParseRequest(s)
	if len(request.Fields) == 0 {
		request.Fields = nil
	}
	return expectedRequest{request, count, errno}
}

// gotResponse is what ParseResponse returns. An empty list of fields is nil.
func gotResponse(s, method string, closed bool) expectedResponse {
	response, count, errno := message.ParseResponse(s, method, closed)
	if len(response.Fields) == 0 {
		response.Fields = nil
	}
	return expectedResponse{response, count, errno}
}

// show shortens a value for a message.
func show(value any) string {
	text := fmt.Sprintf("%#v", value)
	if len(text) <= 300 {
		return text
	}
	return text[:200] + " ... " + text[len(text)-80:]
}

func checkRequestModel(t *testing.T, s string) {
	t.Helper()
	if got, want := gotRequest(s), expectRequest(s); !reflect.DeepEqual(got, want) {
		t.Fatalf("ParseRequest(%s) = %s and not %s", show(s), show(got), show(want))
	}
}

func checkResponseModel(t *testing.T, s string) {
	t.Helper()
	for _, method := range []string{"GET", "HEAD"} {
		for _, closed := range []bool{false, true} {
			got, want := gotResponse(s, method, closed), expectResponse(s, method, closed)
			if !reflect.DeepEqual(got, want) {
				t.Fatalf("ParseResponse(%s, %s, %v) = %s and not %s", show(s), method, closed, show(got), show(want))
			}
		}
	}
}

// neighbours returns the strings that differ from s in one byte: replaced by
// each other byte, left out, or inserted.
func neighbours(s string) []string {
	var all []string
	for i := range len(s) + 1 {
		if i < len(s) {
			all = append(all, s[:i]+s[i+1:])
		}
		for b := range 256 {
			all = append(all, s[:i]+single(b)+s[i:])
			if i < len(s) {
				all = append(all, s[:i]+single(b)+s[i+1:])
			}
		}
	}
	return all
}

// eachSequence calls check with start and all sequences of at most count of the
// pieces after it.
func eachSequence(start string, pieces []string, count int, check func(string)) {
	check(start)
	if count == 0 {
		return
	}
	for _, piece := range pieces {
		eachSequence(start+piece, pieces, count-1, check)
	}
}

func TestParseRequestFollowsTheModel(t *testing.T) {
	check := func(s string) { checkRequestModel(t, s) }
	for _, s := range []string{
		"GET / HTTP/1.1\r\nHost: a\r\n\r\nx",
		"PUT /a HTTP/1.0\r\nContent-Length: 2\r\n\r\nxy",
		"P / HTTP/1.1\r\nHost:\r\nTransfer-Encoding: Chunked\r\n\r\n1\r\nx\r\n0\r\n\r\n",
	} {
		check(s)
		for _, neighbour := range neighbours(s) {
			check(neighbour)
		}
	}
	pieces := []string{"\r\n", "Host: h\r\n", "Content-Length: 2\r\n", "TRANSFER-encoding:chunkeD\r\n", "A: b\r\n", "2\r\nxy", "0\r\n", "x"}
	eachSequence("GET / HTTP/1.1\r\n", pieces, 6, check)
	eachSequence("GET / HTTP/1.0\r\n", pieces, 5, check)
	eachSequence("", []string{"GET / HTTP/1.0", "GET / HTTP/2.0", "GET", "\r\n", "\r", "\n", "A:b"}, 6, check)
	wrong := []string{"\r\n", "Host: h\r\n", "Content-Length: 100001\r\n", "Content-Length: 0000000001\r\n", "Transfer-Encoding: gzip\r\n", "Transfer-Encoding: chunked\r\n", "g\r\n"}
	eachSequence("GET / HTTP/1.1\r\n", wrong, 5, check)
}

func TestParseResponseFollowsTheModel(t *testing.T) {
	check := func(s string) { checkResponseModel(t, s) }
	for _, s := range []string{
		"HTTP/1.1 200 OK\r\nA: b\r\n\r\nx",
		"HTTP/1.0 200 \r\nContent-Length: 2\r\n\r\nxy",
		"HTTP/1.1 404 No\r\nTransfer-Encoding: Chunked\r\n\r\n1\r\nx\r\n0\r\n\r\n",
	} {
		check(s)
		for _, neighbour := range neighbours(s) {
			check(neighbour)
		}
	}
	pieces := []string{"\r\n", "Host: h\r\n", "Content-Length: 2\r\n", "TRANSFER-encoding:chunkeD\r\n", "2\r\nxy", "0\r\n", "x"}
	eachSequence("HTTP/1.1 200 OK\r\n", pieces, 5, check)
	eachSequence("HTTP/1.1 304 OK\r\n", pieces, 4, check)
	eachSequence("", []string{"HTTP/1.0 200 ", "HTTP/1.2 200 ", "HTTP", "\r\n", "\r", "\n", "A:b"}, 6, check)
	wrong := []string{"\r\n", "Content-Length: 100001\r\n", "Content-Length: 0000000001\r\n", "Transfer-Encoding: gzip\r\n", "Transfer-Encoding: chunked\r\n", "g\r\n"}
	eachSequence("HTTP/1.1 200 OK\r\n", wrong, 5, check)
	eachSequence("HTTP/1.1 204 OK\r\n", wrong, 5, check)
}

func TestLongHeadsFollowTheModel(t *testing.T) {
	// The head is filled but for a few bytes.
	line := "A: " + strings.Repeat("v", 1995) + "\r\n"
	pieces := []string{line, "B:\r\n", "\r\n", "C:", "\r", "\n", " \r\n", strings.Repeat("w", 1995)}
	for _, start := range []string{"G / HTTP/1.0\r\n", "HTTP/1.0 100 \r\n"} {
		filled := start + strings.Repeat(line, 7)
		for missing := range 8 {
			filled := filled + "D:" + strings.Repeat("d", api.MaxHead-len(filled)-4-missing) + "\r\n"
			eachSequence(filled, pieces, 2, func(s string) {
				checkRequestModel(t, s)
				checkResponseModel(t, s)
			})
		}
	}
}

func TestManyFieldsFollowTheModel(t *testing.T) {
	pieces := []string{"B:\r\n", "Content-Length:0\r\n", "\r\n", "C\r\n", "C:", "\r", "\n"}
	for _, start := range []string{"G / HTTP/1.0\r\n", "HTTP/1.0 200 \r\n"} {
		for _, count := range []int{api.MaxFields - 2, api.MaxFields} {
			eachSequence(start+strings.Repeat("A:\r\n", count), pieces, 4, func(s string) {
				checkRequestModel(t, s)
				checkResponseModel(t, s)
			})
		}
	}
}
