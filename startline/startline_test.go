package startline_test

import (
	"math"
	"regexp"
	"strconv"
	"strings"
	"testing"

	"variantproxy/api"
	"variantproxy/startline"
)

// requestParts are the results of ParseRequest.
type requestParts struct {
	method, target string
	minor          int
	errno          api.Errno
}

// statusParts are the results of ParseStatus.
type statusParts struct {
	minor, status int
	reason        string
	errno         api.Errno
}

func parseRequest(line string) requestParts {
	method, target, minor, errno := startline.ParseRequest(line)
	return requestParts{method, target, minor, errno}
}

func parseStatus(line string) statusParts {
	minor, status, reason, errno := startline.ParseStatus(line)
	return statusParts{minor, status, reason, errno}
}

func single(b int) string {
	return string([]byte{byte(b)})
}

// The expressions see each byte of a line as the character with its number.
var (
	requestLine = regexp.MustCompile("\\A([A-Za-z0-9!#$%&'*+\\-.^_`|~]+) ([!-~]+) HTTP/([0-9]\\.[0-9])\\z")
	statusLine  = regexp.MustCompile("\\AHTTP/([0-9]\\.[0-9]) ([1-5][0-9][0-9]) ([\\x{09}\\x{20}-\\x{7e}\\x{80}-\\x{ff}]*)\\z")
)

func bytesAsCharacters(line string) string {
	characters := make([]rune, len(line))
	for i := range len(line) {
		characters[i] = rune(line[i])
	}
	return string(characters)
}

// expectedRequest reads a line as promise 2.1 says, by an expression.
func expectedRequest(line string) requestParts {
	if len(line) > api.MaxLine {
		return requestParts{errno: api.ErrLong}
	}
	parts := requestLine.FindStringSubmatch(bytesAsCharacters(line))
	switch {
	case parts == nil:
		return requestParts{errno: api.ErrSyntax}
	case parts[3] == "1.0":
		return requestParts{parts[1], parts[2], 0, api.OK}
	case parts[3] == "1.1":
		return requestParts{parts[1], parts[2], 1, api.OK}
	}
	return requestParts{errno: api.ErrVersion}
}

// expectedStatus reads a line as promise 2.2 says, by an expression.
func expectedStatus(line string) statusParts {
	if len(line) > api.MaxLine {
		return statusParts{errno: api.ErrLong}
	}
	parts := statusLine.FindStringSubmatch(bytesAsCharacters(line))
	if parts == nil {
		return statusParts{errno: api.ErrSyntax}
	}
	status, _ := strconv.Atoi(parts[2])
	reason := line[len("HTTP/1.1 200 "):]
	switch parts[1] {
	case "1.0":
		return statusParts{0, status, reason, api.OK}
	case "1.1":
		return statusParts{1, status, reason, api.OK}
	}
	return statusParts{errno: api.ErrVersion}
}

// neighbours returns the lines that differ from line in one byte: replaced by
// each other byte, left out, or inserted.
func neighbours(line string) []string {
	var all []string
	for i := range len(line) {
		all = append(all, line[:i]+line[i+1:])
		for b := range 256 {
			all = append(all, line[:i]+single(b)+line[i+1:])
		}
	}
	for i := range len(line) + 1 {
		for b := range 256 {
			all = append(all, line[:i]+single(b)+line[i:])
		}
	}
	return all
}

// pieceSequences returns all sequences of at most count of the pieces.
func pieceSequences(pieces []string, count int) []string {
	all := []string{""}
	longest := all
	for range count {
		var longer []string
		for _, sequence := range longest {
			for _, piece := range pieces {
				longer = append(longer, sequence+piece)
			}
		}
		all = append(all, longer...)
		longest = longer
	}
	return all
}

// Promise 2.1

func TestParseRequestReturnsTheParts(t *testing.T) {
	for line, want := range map[string]requestParts{
		"GET /a HTTP/1.1":                   {"GET", "/a", 1, api.OK},
		"GET /a HTTP/1.0":                   {"GET", "/a", 0, api.OK},
		"get / HTTP/1.1":                    {"get", "/", 1, api.OK},
		"X-y!#$%&'*+.^_`|~9 * HTTP/1.1":     {"X-y!#$%&'*+.^_`|~9", "*", 1, api.OK},
		"OPTIONS http://h:80/?q#f HTTP/1.0": {"OPTIONS", "http://h:80/?q#f", 0, api.OK},
		"G !\"#%()<>@[\\]^`{|}~ HTTP/1.1":   {"G", "!\"#%()<>@[\\]^`{|}~", 1, api.OK},
		"GET HTTP/1.1 HTTP/1.1":             {"GET", "HTTP/1.1", 1, api.OK},
		"1 2 HTTP/1.0":                      {"1", "2", 0, api.OK},
	} {
		if got := parseRequest(line); got != want {
			t.Errorf("ParseRequest(%.60q) = %v", line, got)
		}
	}
}

func TestParseRequestOfEveryByteInTheMethodAndTheTarget(t *testing.T) {
	const tokenBytes = "abcdefghijklmnopqrstuvwxyzABCDEFGHIJKLMNOPQRSTUVWXYZ0123456789!#$%&'*+-.^_`|~"
	for b := range 256 {
		s := single(b)
		want := requestParts{errno: api.ErrSyntax}
		if strings.Contains(tokenBytes, s) {
			want = requestParts{s, "/", 1, api.OK}
		}
		if got := parseRequest(s + " / HTTP/1.1"); got != want {
			t.Errorf("method %q: %v", s, got)
		}
		want = requestParts{errno: api.ErrSyntax}
		if b >= 33 && b <= 126 {
			want = requestParts{"GET", s, 0, api.OK}
		}
		if got := parseRequest("GET " + s + " HTTP/1.0"); got != want {
			t.Errorf("target %q: %v", s, got)
		}
	}
}

func TestParseRequestOfEveryVersion(t *testing.T) {
	for major := range 10 {
		for minor := range 10 {
			want := requestParts{errno: api.ErrVersion}
			if major == 1 && minor <= 1 {
				want = requestParts{"GET", "/a", minor, api.OK}
			}
			line := "GET /a HTTP/" + strconv.Itoa(major) + "." + strconv.Itoa(minor)
			if got := parseRequest(line); got != want {
				t.Errorf("ParseRequest(%q) = %v", line, got)
			}
		}
	}
}

func TestParseRequestRefusesOtherLines(t *testing.T) {
	for _, line := range []string{
		"", " ", "  ", "GET", "GET ", "GET /a", "GET /a ", "GET  ", "/a HTTP/1.1", "GET HTTP/1.1", // parts that are missing
		" /a HTTP/1.1", "GET  HTTP/1.1", "  HTTP/1.1",
		"GET  /a HTTP/1.1", "GET /a  HTTP/1.1", " GET /a HTTP/1.1", "GET /a HTTP/1.1 ", "GET /a b HTTP/1.1", // spaces
		"GET\t/a HTTP/1.1", "GET /a\tHTTP/1.1", "GET /a HTTP/1.1\r\n", "GET /a HTTP/1.1\r", "GET /a HTTP/1.1\n",
		"GE:T /a HTTP/1.1", "\"GET\" /a HTTP/1.1", "HTTP/1.1 HTTP/1.1 HTTP/1.1", "G\xc3\x89T /a HTTP/1.1", // no token
		"GET /\x7f HTTP/1.1", "GET /\xc3\xa4 HTTP/1.1", "GET /\x00 HTTP/1.1", "GET /\x1f HTTP/1.1", // no target
		"GET /a http/1.1", "GET /a Http/1.1", "GET /a HTTPS/1.1", "GET /a HTTP1.1", "GET /a HTTP/", // no version
		"GET /a HTTP/1", "GET /a HTTP/1.", "GET /a HTTP/.1", "GET /a HTTP/1,1", "GET /a HTTP/11", "GET /a HTTP/1.10",
		"GET /a HTTP/01.1", "GET /a HTTP/1.1.1", "GET /a HTTP/-1.1", "GET /a HTTP/1.x", "GET /a HTTP/x.1", "GET /a HTTP/1 .1",
		"GET /a HTTP/\xd9\xa1.1",
	} {
		if got := parseRequest(line); got != (requestParts{errno: api.ErrSyntax}) {
			t.Errorf("ParseRequest(%q) = %v", line, got)
		}
	}
}

func TestParseRequestReturnsTheFirstError(t *testing.T) {
	long := strings.Repeat("x", api.MaxLine)
	for line, want := range map[string]api.Errno{
		"GET /" + long + " HTTP/1.1":  api.ErrLong,
		"GET  /" + long + " HTTP/1.1": api.ErrLong, // and malformed
		"GET /" + long + " HTTP/2.0":  api.ErrLong, // and another version
		long + "x":                    api.ErrLong,
		long:                          api.ErrSyntax,
		"GET /a HTTP/2.0":             api.ErrVersion,
		"GET  /a HTTP/2.0":            api.ErrSyntax, // and another version
		"G:T /a HTTP/0.9":             api.ErrSyntax,
		"GET /\x7f HTTP/1.2":          api.ErrSyntax,
	} {
		if got := parseRequest(line); got != (requestParts{errno: want}) {
			t.Errorf("ParseRequest(%.60q) = %v", line, got)
		}
	}
}

func TestParseRequestOfTheLongestLine(t *testing.T) {
	target := strings.Repeat("t", api.MaxLine-len("GET  HTTP/1.1"))
	if got := parseRequest("GET " + target + " HTTP/1.1"); got != (requestParts{"GET", target, 1, api.OK}) {
		t.Errorf("a line of MaxLine bytes: error %d", got.errno)
	}
	if got := parseRequest("GET " + target + "t HTTP/1.1"); got != (requestParts{errno: api.ErrLong}) {
		t.Errorf("one byte more: error %d", got.errno)
	}
	if got := parseRequest("GET " + target + " HTTP/3.1"); got != (requestParts{errno: api.ErrVersion}) {
		t.Errorf("a line of MaxLine bytes of another version: error %d", got.errno)
	}
	if got := parseRequest(strings.Repeat("x", 1<<20)); got != (requestParts{errno: api.ErrLong}) {
		t.Errorf("a line of a million bytes: error %d", got.errno)
	}
}

func TestParseRequestFollowsTheExpression(t *testing.T) {
	lines := append(neighbours("GET /a HTTP/1.1"), neighbours("P * HTTP/2.0")...)
	lines = append(lines, pieceSequences([]string{"A", "/", " ", "HTTP/1.0", "HTTP/1.1", "HTTP/1.2", "1", "\t"}, 5)...)
	for _, line := range lines {
		if got, want := parseRequest(line), expectedRequest(line); got != want {
			t.Fatalf("ParseRequest(%q) = %v, want %v", line, got, want)
		}
	}
}

// Promise 2.2

func TestParseStatusReturnsTheParts(t *testing.T) {
	for line, want := range map[string]statusParts{
		"HTTP/1.1 200 OK":                 {1, 200, "OK", api.OK},
		"HTTP/1.0 404 Not Found":          {0, 404, "Not Found", api.OK},
		"HTTP/1.1 204 ":                   {1, 204, "", api.OK},
		"HTTP/1.1 200  two  spaces  ":     {1, 200, " two  spaces  ", api.OK},
		"HTTP/1.1 200 \t":                 {1, 200, "\t", api.OK},
		"HTTP/1.1 500 \x80\xff \xc3\xa4~": {1, 500, "\x80\xff \xc3\xa4~", api.OK},
		"HTTP/1.0 100 HTTP/2.0":           {0, 100, "HTTP/2.0", api.OK},
	} {
		if got := parseStatus(line); got != want {
			t.Errorf("ParseStatus(%q) = %v", line, got)
		}
	}
}

func TestParseStatusOfEveryThreeDigits(t *testing.T) {
	for status := range 1000 {
		digits := strconv.Itoa(1000 + status)[1:]
		want := statusParts{errno: api.ErrSyntax}
		if status >= 100 && status <= 599 {
			want = statusParts{1, status, "r", api.OK}
		}
		if got := parseStatus("HTTP/1.1 " + digits + " r"); got != want {
			t.Errorf("status %s: %v", digits, got)
		}
	}
}

func TestParseStatusOfEveryByteInTheReason(t *testing.T) {
	for b := range 256 {
		want := statusParts{errno: api.ErrSyntax}
		if b == 9 || b >= 32 && b <= 126 || b >= 128 {
			want = statusParts{0, 200, single(b), api.OK}
		}
		if got := parseStatus("HTTP/1.0 200 " + single(b)); got != want {
			t.Errorf("reason %q: %v", single(b), got)
		}
	}
}

func TestParseStatusOfEveryVersion(t *testing.T) {
	for major := range 10 {
		for minor := range 10 {
			want := statusParts{errno: api.ErrVersion}
			if major == 1 && minor <= 1 {
				want = statusParts{minor, 301, "Moved", api.OK}
			}
			line := "HTTP/" + strconv.Itoa(major) + "." + strconv.Itoa(minor) + " 301 Moved"
			if got := parseStatus(line); got != want {
				t.Errorf("ParseStatus(%q) = %v", line, got)
			}
		}
	}
}

func TestParseStatusRefusesOtherLines(t *testing.T) {
	for _, line := range []string{
		"", " ", "  ", "   ", "HTTP/1.1", "HTTP/1.1 ", "HTTP/1.1 200", "HTTP/1.1  OK", "HTTP/1.1  ", "200 OK", " 200 OK", // parts that are missing
		"HTTP/1.1  200 OK", " HTTP/1.1 200 OK", "HTTP/1.1\t200 OK", "HTTP/1.1 200\tOK", "HTTP/1.1 200OK", // spaces
		"HTTP/1.1 20 OK", "HTTP/1.1 2000 OK", "HTTP/1.1 0200 OK", "HTTP/1.1 020 OK", "HTTP/1.1 99 OK", "HTTP/1.1 099 OK", // no status
		"HTTP/1.1 600 OK", "HTTP/1.1 999 OK", "HTTP/1.1 2x0 OK", "HTTP/1.1 +20 OK", "HTTP/1.1 -20 OK", "HTTP/1.1 2.0 OK",
		"HTTP/1.1 \xd9\xa10 OK", "HTTP/1.1 000 OK",
		"HTTP/1.1 200 OK\r\n", "HTTP/1.1 200 OK\r", "HTTP/1.1 200 \n", "HTTP/1.1 200 \x7f", "HTTP/1.1 200 a\x00b", // no text
		"http/1.1 200 OK", "HTTP/1.10 200 OK", "HTTP/1. 200 OK", "HTTP/1 200 OK", "HTTP/11 200 OK", "HTTP/1,1 200 OK", "ICY 200 OK", // no version
	} {
		if got := parseStatus(line); got != (statusParts{errno: api.ErrSyntax}) {
			t.Errorf("ParseStatus(%q) = %v", line, got)
		}
	}
}

func TestParseStatusReturnsTheFirstError(t *testing.T) {
	long := strings.Repeat("x", api.MaxLine)
	for line, want := range map[string]api.Errno{
		"HTTP/1.1 200 " + long:       api.ErrLong,
		"HTTP/1.1 600 " + long:       api.ErrLong, // and malformed
		"HTTP/2.0 200 " + long:       api.ErrLong, // and another version
		"HTTP/1.1 200 \x7f" + long:   api.ErrLong,
		long:                         api.ErrSyntax,
		"HTTP/2.0 200 OK":            api.ErrVersion,
		"HTTP/0.9 599 ":              api.ErrVersion,
		"HTTP/2.0 600 OK":            api.ErrSyntax, // and another version
		"HTTP/2.0 200":               api.ErrSyntax,
		"HTTP/2.0 20 OK":             api.ErrSyntax,
		"HTTP/1.2 200 \x7f":          api.ErrSyntax,
		"HTTP/3.0 200 " + long[:100]: api.ErrVersion,
	} {
		if got := parseStatus(line); got != (statusParts{errno: want}) {
			t.Errorf("ParseStatus(%.60q) = %v", line, got)
		}
	}
}

func TestParseStatusOfTheLongestLine(t *testing.T) {
	reason := strings.Repeat("r", api.MaxLine-len("HTTP/1.1 200 "))
	if got := parseStatus("HTTP/1.1 200 " + reason); got != (statusParts{1, 200, reason, api.OK}) {
		t.Errorf("a line of MaxLine bytes: error %d", got.errno)
	}
	if got := parseStatus("HTTP/1.1 200 " + reason + "r"); got != (statusParts{errno: api.ErrLong}) {
		t.Errorf("one byte more: error %d", got.errno)
	}
	if got := parseStatus("HTTP/3.1 200 " + reason); got != (statusParts{errno: api.ErrVersion}) {
		t.Errorf("a line of MaxLine bytes of another version: error %d", got.errno)
	}
	if got := parseStatus(strings.Repeat("x", 1<<20)); got != (statusParts{errno: api.ErrLong}) {
		t.Errorf("a line of a million bytes: error %d", got.errno)
	}
}

func TestParseStatusFollowsTheExpression(t *testing.T) {
	lines := append(neighbours("HTTP/1.1 200 OK"), neighbours("HTTP/2.0 599 ")...)
	lines = append(lines, pieceSequences([]string{"HTTP/1.0", "HTTP/1.1", "HTTP/1.2", " ", "200", "599", "60", "x"}, 5)...)
	for _, line := range lines {
		if got, want := parseStatus(line), expectedStatus(line); got != want {
			t.Fatalf("ParseStatus(%q) = %v, want %v", line, got, want)
		}
	}
}

// Promise 2.3

func TestFormatRequestWritesTheParts(t *testing.T) {
	for _, c := range []struct {
		method, target string
		minor          int
		want           string
	}{
		{"GET", "/a", 1, "GET /a HTTP/1.1"},
		{"GET", "/a", 0, "GET /a HTTP/1.0"},
		{"options", "*", 1, "options * HTTP/1.1"},
		{"!", "http://h/?a#b", 1, "! http://h/?a#b HTTP/1.1"},
		{"GET", "HTTP/1.1", 0, "GET HTTP/1.1 HTTP/1.0"},
		{"", "/a", 1, ""},
		{"GET", "", 1, ""},
		{"", "", 0, ""},
		{"G T", "/a", 1, ""},
		{"GET ", "/a", 1, ""},
		{" GET", "/a", 1, ""},
		{"GET", " /a", 1, ""},
		{"GET", "/a ", 1, ""},
		{"GET", "/a b", 1, ""},
		{"GET /x", "", 1, ""},
		{"", "GET /x", 1, ""},
		{"GET", "/a HTTP/1.1\r\nX: y", 1, ""},
		{"GET", "/a\n", 1, ""},
		{"G(T", "/a", 1, ""},
		{"GET", "/\x7f", 1, ""},
		{"GET", "/\x80", 1, ""},
		{"GET", "/a", 2, ""},
		{"GET", "/a", 9, ""},
		{"GET", "/a", 10, ""},
		{"GET", "/a", 11, ""},
		{"GET", "/a", -1, ""},
		{"GET", "/a", math.MaxInt, ""},
		{"GET", "/a", math.MinInt, ""},
	} {
		if got := startline.FormatRequest(c.method, c.target, c.minor); got != c.want {
			t.Errorf("FormatRequest(%q, %q, %d) = %q", c.method, c.target, c.minor, got)
		}
	}
}

func TestFormatStatusWritesTheParts(t *testing.T) {
	for _, c := range []struct {
		minor, status int
		reason        string
		want          string
	}{
		{1, 200, "OK", "HTTP/1.1 200 OK"},
		{0, 404, "Not Found", "HTTP/1.0 404 Not Found"},
		{1, 204, "", "HTTP/1.1 204 "},
		{1, 100, " ", "HTTP/1.1 100  "},
		{0, 599, "\t\xff", "HTTP/1.0 599 \t\xff"},
		{1, 99, "OK", ""},
		{1, 600, "OK", ""},
		{1, 0, "OK", ""},
		{1, 20, "0 OK", ""},
		{1, 1200, "OK", ""},
		{1, -200, "OK", ""},
		{1, -20, "OK", ""},
		{1, math.MaxInt, "OK", ""},
		{1, math.MinInt, "OK", ""},
		{2, 200, "OK", ""},
		{10, 200, "OK", ""},
		{11, 200, "OK", ""},
		{-1, 200, "OK", ""},
		{math.MaxInt, 200, "OK", ""},
		{math.MinInt, 200, "OK", ""},
		{1, 200, "\x7f", ""},
		{1, 200, "OK\r\nX: y", ""},
		{1, 200, "OK\n", ""},
		{1, 200, "\x00", ""},
	} {
		if got := startline.FormatStatus(c.minor, c.status, c.reason); got != c.want {
			t.Errorf("FormatStatus(%d, %d, %q) = %q", c.minor, c.status, c.reason, got)
		}
	}
}

func TestFormatWritesLinesOfMaxLineBytesAndNoLongerOnes(t *testing.T) {
	target := strings.Repeat("t", api.MaxLine-len("GET  HTTP/1.1"))
	if got := startline.FormatRequest("GET", target, 1); got != "GET "+target+" HTTP/1.1" {
		t.Errorf("a request line of MaxLine bytes: %.60q", got)
	}
	if got := startline.FormatRequest("GET", target+"t", 1); got != "" {
		t.Errorf("a longer request line: %.60q", got)
	}
	if got := startline.FormatRequest("GETS", target, 1); got != "" {
		t.Errorf("a longer request line: %.60q", got)
	}
	reason := strings.Repeat("r", api.MaxLine-len("HTTP/1.1 200 "))
	if got := startline.FormatStatus(1, 200, reason); got != "HTTP/1.1 200 "+reason {
		t.Errorf("a status line of MaxLine bytes: %.60q", got)
	}
	if got := startline.FormatStatus(1, 200, reason+"r"); got != "" {
		t.Errorf("a longer status line: %.60q", got)
	}
}

func TestFormatRequestOfAllPartsReadsBackOrIsEmpty(t *testing.T) {
	texts := append(pieceSequences([]string{"A", "/", " ", "HTTP/1.1", "\r\n"}, 2), "G\xc4T", "\t", "~!")
	for _, method := range texts {
		for _, target := range texts {
			for minor := -1; minor <= 12; minor++ {
				line := method + " " + target + " HTTP/1." + strconv.Itoa(minor)
				if expectedRequest(line) != (requestParts{method, target, minor, api.OK}) {
					line = ""
				}
				if got := startline.FormatRequest(method, target, minor); got != line {
					t.Errorf("FormatRequest(%q, %q, %d) = %q", method, target, minor, got)
				}
			}
		}
	}
}

func TestFormatStatusOfAllPartsReadsBackOrIsEmpty(t *testing.T) {
	for _, reason := range []string{"", "OK", " ", " 200 ", "\t\xff", "\n", "\x7f", "a\x1f"} {
		for minor := -1; minor <= 12; minor++ {
			for status := -1000; status <= 10000; status++ {
				line := "HTTP/1." + strconv.Itoa(minor) + " " + strconv.Itoa(status) + " " + reason
				if minor < 0 || minor > 1 || status < 100 || status > 599 || !statusLine.MatchString(bytesAsCharacters(line)) {
					line = ""
				}
				if got := startline.FormatStatus(minor, status, reason); got != line {
					t.Fatalf("FormatStatus(%d, %d, %q) = %q", minor, status, reason, got)
				}
			}
		}
	}
}
