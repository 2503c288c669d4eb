package message_test

import (
	"fmt"
	"math"
	"reflect"
	"slices"
	"strings"
	"testing"

	"variantproxy/api"
	"variantproxy/message"
)

func checkFormatRequest(t *testing.T, r api.Request, want string) {
	t.Helper()
	if got := message.FormatRequest(r); got != want {
		t.Errorf("FormatRequest(%s) = %s and not %s", show(r), show(got), show(want))
	}
}

func checkFormatResponse(t *testing.T, r api.Response, method, want string) {
	t.Helper()
	if got := message.FormatResponse(r, method); got != want {
		t.Errorf("FormatResponse(%s, %q) = %s and not %s", show(r), method, show(got), show(want))
	}
}

// checkFormat gives the fields and the body to a request and to responses, and
// expects that these lines and the body follow the start line. For wrong
// contents, it expects nothing.
func checkFormat(t *testing.T, list []api.Field, body, lines string, valid bool) {
	t.Helper()
	length := fmt.Sprintf("Content-Length: %d\r\n", len(body))
	whole := func(text string) string {
		if !valid {
			return ""
		}
		return text
	}
	checkFormatRequest(t, api.Request{Method: "PUT", Target: "/", Minor: 1, Fields: list, Body: body}, whole("PUT / HTTP/1.1\r\n"+lines+length+"\r\n"+body))
	response := api.Response{Minor: 1, Status: 200, Reason: "OK", Fields: list, Body: body}
	checkFormatResponse(t, response, "GET", whole("HTTP/1.1 200 OK\r\n"+lines+length+"\r\n"+body))
	checkFormatResponse(t, response, "HEAD", whole("HTTP/1.1 200 OK\r\n"+lines+"\r\n"))
	response.Status = 304
	checkFormatResponse(t, response, "GET", whole("HTTP/1.1 304 OK\r\n"+lines+"\r\n"))
	if body == "" {
		checkFormatRequest(t, api.Request{Method: "GET", Target: "/", Minor: 1, Fields: list}, whole("GET / HTTP/1.1\r\n"+lines+"\r\n"))
	}
}

// Promise 6.5

func TestFormatRequest(t *testing.T) {
	host := fields("Host", "a")
	for _, c := range []struct {
		r    api.Request
		want string
	}{
		{api.Request{Method: "GET", Target: "/", Minor: 1, Fields: host}, "GET / HTTP/1.1\r\nHost: a\r\n\r\n"},
		{api.Request{Method: "GET", Target: "/"}, "GET / HTTP/1.0\r\n\r\n"},
		{api.Request{Method: "GET", Target: "/", Minor: 1}, "GET / HTTP/1.1\r\n\r\n"}, // Host is not demanded
		{api.Request{Method: "GET", Target: "/", Minor: 1, Fields: fields("Host", "a", "host", "b")}, "GET / HTTP/1.1\r\nHost: a\r\nhost: b\r\n\r\n"},
		{api.Request{Method: "GET", Target: "/", Fields: fields("B", "", "A", "x y", "B", "\xff")}, "GET / HTTP/1.0\r\nB:\r\nA: x y\r\nB: \xff\r\n\r\n"},
		{api.Request{Method: "GET", Target: "/", Fields: host, Body: "abc"}, "GET / HTTP/1.0\r\nHost: a\r\nContent-Length: 3\r\n\r\nabc"},
		{api.Request{Method: "*", Target: "*", Minor: 1, Body: "\r\n\x00"}, "* * HTTP/1.1\r\nContent-Length: 3\r\n\r\n\r\n\x00"},
	} {
		checkFormatRequest(t, c.r, c.want)
	}
}

func TestFormatRequestOfEveryMethod(t *testing.T) {
	for _, method := range []string{"GET", "HEAD", "DELETE", "OPTIONS", "TRACE", "CONNECT", "post", "Put", "PATCHES", "POS", "x"} {
		checkFormatRequest(t, api.Request{Method: method, Target: "/"}, method+" / HTTP/1.0\r\n\r\n")
		checkFormatRequest(t, api.Request{Method: method, Target: "/", Body: "0123456789"}, method+" / HTTP/1.0\r\nContent-Length: 10\r\n\r\n0123456789")
	}
	for _, method := range []string{"POST", "PUT", "PATCH"} {
		checkFormatRequest(t, api.Request{Method: method, Target: "/", Fields: fields("A", "b")}, method+" / HTTP/1.0\r\nA: b\r\nContent-Length: 0\r\n\r\n")
		checkFormatRequest(t, api.Request{Method: method, Target: "/", Body: "0123456789"}, method+" / HTTP/1.0\r\nContent-Length: 10\r\n\r\n0123456789")
	}
}

func TestFormatResponseOfEveryStatus(t *testing.T) {
	for status := range 700 {
		response := api.Response{Minor: 1, Status: status, Reason: "A b", Fields: fields("C", "d"), Body: "abc"}
		head := fmt.Sprintf("HTTP/1.1 %d A b\r\nC: d\r\n", status)
		for _, method := range []string{"GET", "HEAD", "head", "", "CONNECT"} {
			want := head + "Content-Length: 3\r\n\r\nabc"
			if method == "HEAD" || status < 200 || status == 204 || status == 304 {
				want = head + "\r\n"
			}
			if status < 100 || status > 599 {
				want = ""
			}
			checkFormatResponse(t, response, method, want)
		}
	}
	checkFormatResponse(t, api.Response{Status: 200}, "GET", "HTTP/1.0 200 \r\nContent-Length: 0\r\n\r\n")
	checkFormatResponse(t, api.Response{Status: 204}, "GET", "HTTP/1.0 204 \r\n\r\n")
	checkFormatResponse(t, api.Response{Status: 200}, "HEAD", "HTTP/1.0 200 \r\n\r\n")
}

func TestFormatOfInvalidStartLines(t *testing.T) {
	for _, r := range []api.Request{
		{},
		{Target: "/"},
		{Method: "GET"},
		{Method: "GE T", Target: "/"},
		{Method: "GET\r\n", Target: "/"},
		{Method: "GET", Target: "/ "},
		{Method: "GET", Target: "/\xff"},
		{Method: "GET", Target: "/", Minor: 2},
		{Method: "GET", Target: "/", Minor: -1},
		{Method: "GET", Target: "/", Minor: 11},
		{Method: "GET", Target: "/", Minor: math.MaxInt},
		{Method: "GET", Target: strings.Repeat("/", api.MaxLine-12)},
		{Method: strings.Repeat("A", api.MaxHead), Target: "/"},
	} {
		for _, body := range []string{"", "x"} {
			r.Body = body
			checkFormatRequest(t, r, "")
		}
	}
	for _, r := range []api.Response{
		{},
		{Status: 99},
		{Status: 600},
		{Status: -200},
		{Status: 2000},
		{Status: 200, Minor: 2},
		{Status: 304, Minor: -1},
		{Status: 200, Reason: "\n"},
		{Status: 304, Reason: "a\r\nb"},
		{Status: 200, Reason: "\x7f"},
		{Status: 200, Reason: strings.Repeat("r", api.MaxLine-12)},
	} {
		checkFormatResponse(t, r, "GET", "")
		checkFormatResponse(t, r, "HEAD", "")
	}
	target := strings.Repeat("/", api.MaxLine-13)
	checkFormatRequest(t, api.Request{Method: "GET", Target: target}, "GET "+target+" HTTP/1.0\r\n\r\n")
	checkFormatResponse(t, api.Response{Status: 304, Reason: target}, "GET", "HTTP/1.0 304 "+target+"\r\n\r\n")
}

func TestFormatLeavesFramingFieldsOut(t *testing.T) {
	framing := fields(
		"Content-Length", "7", "content-length", "", "CONTENT-LENGTH", "x",
		"Transfer-Encoding", "chunked", "transfer-encoding", "gzip", "tRaNsFeR-eNcOdInG", "",
		"Content-Length", " not valid\r\n", "Transfer-Encoding", "\x00", "Content-Length", strings.Repeat("1", api.MaxHead))
	for _, body := range []string{"", "x"} {
		checkFormat(t, framing, body, "", true)
		for _, f := range framing {
			checkFormat(t, []api.Field{f}, body, "", true)
			checkFormat(t, append(fields("A", "b", "C", "d"), f), body, "A: b\r\nC: d\r\n", true)
			checkFormat(t, append([]api.Field{f}, fields("A", "b", "C", "d")...), body, "A: b\r\nC: d\r\n", true)
			checkFormat(t, slices.Insert(fields("A", "b", "C", "d"), 1, f), body, "A: b\r\nC: d\r\n", true)
		}
		checkFormat(t, fields("Content-Lengt", "1", "Transfer-Encodings", "chunked", "X-Content-Length", "2"), body,
			"Content-Lengt: 1\r\nTransfer-Encodings: chunked\r\nX-Content-Length: 2\r\n", true)
	}
}

func TestFormatOfInvalidFields(t *testing.T) {
	long := strings.Repeat("v", api.MaxLine-len("A: "))
	checkFormat(t, fields("A", long), "", "A: "+long+"\r\n", true)
	for _, f := range fields(
		"", "", "", "x", "A b", "x", "A:", "x", "A\xff", "x", "A\r\n", "x", "Content-Length ", "1", " Transfer-Encoding", "",
		"A", " x", "A", "x ", "A", "\tx", "A", "x\t", "A", "x\r", "A", "x\ny", "A", "\x00", "A", "x\x7f", "A", long+"v", long+"vvv", "",
	) {
		for _, body := range []string{"", "x"} {
			checkFormat(t, []api.Field{f}, body, "", false)
			checkFormat(t, append(fields("B", "c", "D", "e"), f), body, "", false)
			checkFormat(t, append([]api.Field{f}, fields("B", "c", "D", "e")...), body, "", false)
			checkFormat(t, append(fields("Content-Length", "1"), f), body, "", false)
		}
	}
}

func TestFormatOfManyFields(t *testing.T) {
	list := slices.Repeat(fields("A", "b"), api.MaxFields-1)
	lines := strings.Repeat("A: b\r\n", len(list))
	framing := slices.Repeat(fields("Content-Length", "1", "Transfer-Encoding", "chunked"), 1000)
	for _, body := range []string{"", "x"} {
		checkFormat(t, list, body, lines, true)
		checkFormat(t, slices.Concat(framing, list, framing), body, lines, true)
		for _, more := range []int{1, 2, api.MaxFields} {
			// Even if there is no Content-Length, a line is kept free for it.
			checkFormat(t, slices.Concat(list, slices.Repeat(list[:1], more)), body, "", false)
		}
		checkFormat(t, slices.Concat(framing, list, list[:1]), body, "", false)
	}
}

func TestFormatOfLongBodies(t *testing.T) {
	body := mixedBytes(api.MaxBody)
	checkFormat(t, fields("A", "b"), body, "A: b\r\n", true)
	// This limit holds for bodies that are not written, too.
	checkFormat(t, fields("A", "b"), body+"x", "", false)
	checkFormat(t, nil, body+body, "", false)
}

func TestFormatOfLongHeads(t *testing.T) {
	for _, body := range []string{"", "x", mixedBytes(api.MaxBody)} {
		length := fmt.Sprintf("Content-Length: %d\r\n", len(body))
		for _, c := range []struct {
			start, method string
			status        int
		}{
			{"HTTP/1.1 200 OK\r\n", "GET", 200},
			{"HTTP/1.1 200 OK\r\n", "HEAD", 200},
			{"HTTP/1.1 204 OK\r\n", "GET", 204},
		} {
			ending := length + "\r\n" + body
			if message.Bodiless(c.status, c.method) {
				ending = "\r\n"
			}
			room := api.MaxHead - len(c.start+strings.TrimSuffix(ending, body))
			lines, list := filledLines(room)
			response := api.Response{Minor: 1, Status: c.status, Reason: "OK", Fields: list, Body: body}
			checkFormatResponse(t, response, c.method, c.start+lines+ending)
			_, response.Fields = filledLines(room + 1)
			checkFormatResponse(t, response, c.method, "")
		}
		for _, method := range []string{"GET", "POST"} {
			start, ending := method+" / HTTP/1.1\r\n", length+"\r\n"
			if method == "GET" && body == "" {
				ending = "\r\n"
			}
			room := api.MaxHead - len(start+ending)
			lines, list := filledLines(room)
			request := api.Request{Method: method, Target: "/", Minor: 1, Fields: list, Body: body}
			checkFormatRequest(t, request, start+lines+ending+body)
			_, request.Fields = filledLines(room + 1)
			checkFormatRequest(t, request, "")
		}
	}
}

func TestFormatLeavesItsArgumentsAlone(t *testing.T) {
	// There is room behind the list, which must not be used.
	all := fields("A", "1", "Content-Length", "2", "B", "3", "Transfer-Encoding", "4", "C", "5", "kept", "kept")
	before := slices.Clone(all)
	message.FormatRequest(api.Request{Method: "POST", Target: "/", Fields: all[:5], Body: "x"})
	message.FormatResponse(api.Response{Status: 200, Fields: all[:5], Body: "x"}, "GET")
	message.FormatResponse(api.Response{Status: 200, Fields: all[:5], Body: "x"}, "HEAD")
	if !reflect.DeepEqual(all, before) {
		t.Errorf("the fields are changed to %v", all)
	}
}

// Consequences

func TestParseReadsWhatFormatWrites(t *testing.T) {
	lists := [][]api.Field{nil, fields("A", "b"), fields("B", "", "A", "\xff, \"c\"", "b", "x y")}
	for _, body := range []string{"", "x", "\r\n\r\n", "0\r\n\r\n", mixedBytes(300), mixedBytes(api.MaxBody)} {
		for _, list := range lists {
			for minor := range 2 {
				for _, method := range []string{"GET", "HEAD", "POST", "PUT", "PATCH", "DELETE", "x"} {
					request := api.Request{Method: method, Target: "/a?b", Minor: minor, Fields: append(fields("host", "h"), list...), Body: body}
					s := message.FormatRequest(request)
					checkRequest(t, s, request, len(s))
					checkRequest(t, s+"more", request, len(s))
				}
				for _, status := range []int{200, 203, 205, 206, 301, 303, 305, 404, 500, 599} {
					response := api.Response{Minor: minor, Status: status, Reason: "a b ", Fields: list, Body: body}
					s := message.FormatResponse(response, "GET")
					checkResponse(t, s, "GET", false, response, len(s))
					checkResponse(t, s+"more", "GET", true, response, len(s))
				}
				for _, status := range []int{100, 199, 204, 304, 200} {
					response := api.Response{Minor: minor, Status: status, Reason: "a b ", Fields: list, Body: body}
					s := message.FormatResponse(response, "HEAD")
					response.Body = ""
					checkResponse(t, s, "HEAD", false, response, len(s))
				}
			}
		}
	}
}

func TestParseReadsWhatFormatWritesAtTheLimits(t *testing.T) {
	for count := api.MaxFields - 3; count <= api.MaxFields+1; count++ {
		list := append(fields("Host", "a"), slices.Repeat(fields("A", "b"), count-1)...)
		request := api.Request{Method: "POST", Target: "/", Minor: 1, Fields: list, Body: "x"}
		s := message.FormatRequest(request)
		if (s != "") != (count < api.MaxFields) {
			t.Errorf("%d fields are written as %s", count, show(s))
		}
		if s != "" {
			checkRequest(t, s, request, len(s))
		}
	}
	for room := api.MaxHead - 70; room < api.MaxHead; room++ {
		_, list := filledLines(room)
		list[0].Name = "Host"
		request := api.Request{Method: "GET", Target: "/", Minor: 1, Fields: list, Body: "x"}
		if s := message.FormatRequest(request); s != "" {
			checkRequest(t, s, request, len(s))
		}
		response := api.Response{Minor: 1, Status: 200, Reason: "OK", Fields: list, Body: "x"}
		if s := message.FormatResponse(response, "GET"); s != "" {
			checkResponse(t, s, "GET", false, response, len(s))
		}
	}
}
