package target_test

import (
	"regexp"
	"strconv"
	"strings"
	"testing"

	"variantproxy/api"
	"variantproxy/target"
)

func single(b int) string {
	return string([]byte{byte(b)})
}

// The expressions see each byte of a string as the character with its number.
var (
	authorityText = regexp.MustCompile(`\A([A-Za-z0-9.-]+)(:([0-9]{0,5}))?\z`)
	absoluteText  = regexp.MustCompile(`(?s)\A[Hh][Tt][Tt][Pp]://([^/?]*)(.*)\z`)
	uriPart       = regexp.MustCompile(`\A(%[0-9A-Fa-f]{2}|[!"$&-~])*\z`)
	triplet       = regexp.MustCompile(`%..`)
	unreserved    = regexp.MustCompile(`\A[A-Za-z0-9._~-]\z`)
)

func bytesAsCharacters(s string) string {
	characters := make([]rune, len(s))
	for i := range len(s) {
		characters[i] = rune(s[i])
	}
	return string(characters)
}

func charactersAsBytes(s string) string {
	var all []byte
	for _, character := range s {
		all = append(all, byte(character))
	}
	return string(all)
}

// expectedAuthority reads an authority as promise 4.1 says, by an expression.
func expectedAuthority(s string) (string, int, bool) {
	parts := authorityText.FindStringSubmatch(bytesAsCharacters(s))
	if parts == nil {
		return "", 0, false
	}
	port := 80
	if parts[3] != "" {
		port, _ = strconv.Atoi(parts[3])
	}
	if port < 1 || port > 65535 {
		return "", 0, false
	}
	return strings.ToLower(parts[1]), port, true
}

// expectedNormal replaces triplets as promise 4.2 says, by expressions.
func expectedNormal(s string) (string, bool) {
	if !uriPart.MatchString(bytesAsCharacters(s)) {
		return "", false
	}
	return triplet.ReplaceAllStringFunc(s, func(t string) string {
		number, _ := strconv.ParseUint(t[1:], 16, 8)
		if character := string(rune(number)); unreserved.MatchString(character) {
			return character
		}
		return strings.ToUpper(t)
	}), true
}

// expectedSegments follows the words of promise 4.3: it marks the pieces that
// are left out, and looks for the last one before that has not been.
func expectedSegments(path string) string {
	if path == "" || path[0] != '/' {
		return path
	}
	pieces := strings.Split(path[1:], "/")
	last := len(pieces) - 1
	endsWithDots := pieces[last] == "." || pieces[last] == ".."
	leftOut := make([]bool, len(pieces))
	for i, piece := range pieces {
		leftOut[i] = piece == "." || piece == ".."
		for before := i - 1; piece == ".." && before >= 0; before-- {
			if !leftOut[before] {
				leftOut[before] = true
				break
			}
		}
	}
	var left []string
	for i, piece := range pieces {
		if !leftOut[i] {
			left = append(left, piece)
		}
	}
	if endsWithDots {
		left = append(left, "")
	}
	return "/" + strings.Join(left, "/")
}

// expectedURI reads a target as promise 4.4 says.
func expectedURI(text, host string) (api.URI, api.Errno) {
	authority, rest := host, text
	if parts := absoluteText.FindStringSubmatch(bytesAsCharacters(text)); parts != nil {
		authority, rest = charactersAsBytes(parts[1]), charactersAsBytes(parts[2])
	} else if text == "" || text[0] != '/' {
		return api.URI{}, api.ErrForm
	}
	var uri api.URI
	pathBytes := len(rest)
	if mark := strings.Index(rest, "?"); mark >= 0 {
		pathBytes = mark
		uri.HasQuery = true
		query, ok := expectedNormal(rest[mark+1:])
		if !ok {
			return api.URI{}, api.ErrForm
		}
		uri.Query = query
	}
	path, ok := expectedNormal(rest[:pathBytes])
	if !ok {
		return api.URI{}, api.ErrForm
	}
	if path == "" {
		path = "/"
	}
	uri.Path = expectedSegments(path)
	if uri.Host, uri.Port, ok = expectedAuthority(authority); !ok {
		return api.URI{}, api.ErrHost
	}
	return uri, api.OK
}

// expectedResolution reads a reference as promise 4.5 says.
func expectedResolution(base api.URI, ref string) (api.URI, bool) {
	isAbsolute := absoluteText.MatchString(bytesAsCharacters(ref))
	isPath := strings.HasPrefix(ref, "/") && !strings.HasPrefix(ref, "//")
	if !isAbsolute && !isPath {
		return api.URI{}, false
	}
	host := base.Host
	if base.Port != 80 {
		host += ":" + strconv.Itoa(base.Port)
	}
	uri, errno := expectedURI(ref, host)
	return uri, errno == api.OK
}

// neighbours returns the strings that differ from s in one byte: replaced by
// each other byte, left out, or inserted.
func neighbours(s string) []string {
	var all []string
	for i := range len(s) {
		all = append(all, s[:i]+s[i+1:])
		for b := range 256 {
			all = append(all, s[:i]+single(b)+s[i+1:])
		}
	}
	for i := range len(s) + 1 {
		for b := range 256 {
			all = append(all, s[:i]+single(b)+s[i:])
		}
	}
	return all
}

// pieceSequences returns all sequences of at most count of the pieces.
func pieceSequences(pieces []string, count int) []string {
	all := []string{""}
	longest := all
	for range count {
		var longer []string
		for _, sequence := range longest {
			for _, piece := range pieces {
				longer = append(longer, sequence+piece)
			}
		}
		all = append(all, longer...)
		longest = longer
	}
	return all
}

// Promise 4.1

func checkAuthority(t *testing.T, s, host string, port int, ok bool) {
	t.Helper()
	if gotHost, gotPort, gotOK := target.Authority(s); gotHost != host || gotPort != port || gotOK != ok {
		t.Errorf("Authority(%.200q) = %.200q, %d, %t", s, gotHost, gotPort, gotOK)
	}
}

func TestAuthority(t *testing.T) {
	for _, c := range []struct {
		s, host string
		port    int
	}{
		{"EXAMPLE.org:80", "example.org", 80},
		{"example.org", "example.org", 80},
		{"h", "h", 80},
		{"H:", "h", 80}, // an empty port
		{"h:1", "h", 1},
		{"h:8080", "h", 8080},
		{"h:65535", "h", 65535},
		{"h:00080", "h", 80},
		{"h:00001", "h", 1},
		{"127.0.0.1:443", "127.0.0.1", 443},
		{"-", "-", 80},
		{".", ".", 80},
		{"-.-:9", "-.-", 9},
		{"9:9", "9", 9},
		{"AZ-az.09:65534", "az-az.09", 65534},
	} {
		checkAuthority(t, c.s, c.host, c.port, true)
	}
}

func TestAuthorityRefusesOtherTexts(t *testing.T) {
	for _, s := range []string{
		"", ":", ":80", // no host
		"h:0", "h:00000", "h:65536", "h:99999", // out of range
		"h:000080", "h:000001", "h:000000", "h:100000", "h:4294967376", "h:18446744073709551696", // more than 5 digits
		"h:8a", "h:a", "h:-1", "h:+1", "h: 80", "h:80 ", "h:8 0", "h:0x50", "h:\xd9\xa1", // no digits
		"h:1:2", "h::80", "h:80:", "h::", // more than one colon
		" h", "h ", "h\t", "a b", "u@h", "h_", "[::1]", "[::1]:80", "h%41", "h/", "/", "h?", "h#", "h,i", "h:80/", "\"h\"", "h\r\n", "h\x00", "\x7f", "\xc3\xa4", "h\xff",
	} {
		checkAuthority(t, s, "", 0, false)
	}
}

func TestAuthorityOfEveryByte(t *testing.T) {
	for b := range 256 {
		s := single(b)
		isHost := strings.Contains("abcdefghijklmnopqrstuvwxyzABCDEFGHIJKLMNOPQRSTUVWXYZ0123456789-.", s)
		for _, frame := range []string{"*", "a*", "*a", "a*b", "*:80", "a*:80"} {
			text := strings.Replace(frame, "*", s, 1)
			// A colon is no part of the host but may stand behind it.
			host, port, ok := expectedAuthority(text)
			if b != ':' && ok != isHost {
				t.Fatalf("the expression is wrong about %q", text)
			}
			checkAuthority(t, text, host, port, ok)
		}
		for _, frame := range []string{"h:*", "h:1*", "h:*1", "h:1*2"} {
			host, port, ok := expectedAuthority(strings.Replace(frame, "*", s, 1))
			if ok != ('0' <= b && b <= '9' && (frame != "h:*" || b != '0')) {
				t.Fatalf("the expression is wrong about byte %d in %q", b, frame)
			}
			checkAuthority(t, strings.Replace(frame, "*", s, 1), host, port, ok)
		}
	}
}

func TestAuthorityOfEveryPort(t *testing.T) {
	for port := range 120000 {
		digits := strconv.Itoa(port)
		for _, zeros := range []string{"", "0", "00", "000", "0000", "00000"} {
			host, want, ok := "", 0, len(zeros+digits) <= 5 && port >= 1 && port <= 65535
			if ok {
				host, want = "h", port
			}
			checkAuthority(t, "H:"+zeros+digits, host, want, ok)
		}
	}
}

func TestAuthorityFollowsTheExpression(t *testing.T) {
	texts := append(neighbours("A-b.9:65535"), neighbours("h:")...)
	texts = append(texts, pieceSequences([]string{"H", ".", ":", "0", "8", "99", " "}, 5)...)
	for _, s := range texts {
		host, port, ok := expectedAuthority(s)
		checkAuthority(t, s, host, port, ok)
	}
}

func TestAuthorityOfLongTexts(t *testing.T) {
	long := strings.Repeat("Ab-9.", 1<<18)
	checkAuthority(t, long+":8080", strings.ToLower(long), 8080, true)
	checkAuthority(t, long+"_", "", 0, false)
	checkAuthority(t, "h:"+strings.Repeat("0", 1<<20), "", 0, false)
	checkAuthority(t, "h:"+strings.Repeat("9", 1<<20), "", 0, false)
	checkAuthority(t, strings.Repeat(":", 1<<20), "", 0, false)
}

// Promise 4.2

func checkNormal(t *testing.T, s, want string, wantOK bool) {
	t.Helper()
	if got, ok := target.Normalize(s); got != want || ok != wantOK {
		t.Errorf("Normalize(%.200q) = %.200q, %t", s, got, ok)
	}
}

func TestNormalize(t *testing.T) {
	for s, want := range map[string]string{
		"":                        "",
		"/a/b.c":                  "/a/b.c",
		"b%7e":                    "b~",
		"%41%7A%30%2d%2E%5f%7E":   "Az0-._~",
		"%2f%3f%23%25%3a%20%00":   "%2F%3F%23%25%3A%20%00",
		"%c3%A4%fF":               "%C3%A4%FF",
		"%2541":                   "%2541", // what is left is not read again
		"%25%34%31":               "%2541",
		"%2e%2e/%2E":              "../.",
		"%aA%Aa%aa%AA":            "%AA%AA%AA%AA",
		"a%2B+%2b":                "a%2B+%2B",
		"!\"$&'()*+,;:@/?[]^`{|}": "!\"$&'()*+,;:@/?[]^`{|}",
		"<>\\=":                   "<>\\=",
	} {
		checkNormal(t, s, want, true)
	}
}

func TestNormalizeRefusesOtherTexts(t *testing.T) {
	for _, s := range []string{
		"%", "%4", "a%", "a%4", "%41%", "%41%4", "%%", "%%41", "%4%31", "%41x%", "%g1", "%1g", "%G1", "%4 ", "%-1", "%+1", "%0x", "%4\x00", "%\xff\xff", // no triplet
		"#", "a#b", "%41#", "#%41", "/a#",
		" ", "a b", "\t", "a\r\nb", "\x00", "\x1f", "\x7f", "\x80", "\xff", "\xc3\xa4", "a\x7f",
	} {
		checkNormal(t, s, "", false)
	}
}

func TestNormalizeOfEveryByte(t *testing.T) {
	for b := range 256 {
		s := single(b)
		ok := b >= 33 && b <= 126 && b != '%' && b != '#'
		for _, frame := range []string{"*", "a*", "*b", "%41*%2f"} {
			want, wantOK := "", ok
			if ok {
				want = strings.Replace(strings.Replace(strings.Replace(frame, "%41", "A", 1), "%2f", "%2F", 1), "*", s, 1)
			}
			checkNormal(t, strings.Replace(frame, "*", s, 1), want, wantOK)
		}
	}
}

func TestNormalizeOfEveryTriplet(t *testing.T) {
	const lowerDigits, upperDigits = "0123456789abcdef", "0123456789ABCDEF"
	for b := range 256 {
		want := "%" + upperDigits[b>>4:b>>4+1] + upperDigits[b&15:b&15+1]
		if strings.Contains("abcdefghijklmnopqrstuvwxyzABCDEFGHIJKLMNOPQRSTUVWXYZ0123456789-._~", single(b)) {
			want = single(b)
		}
		for _, high := range []string{lowerDigits, upperDigits} {
			for _, low := range []string{lowerDigits, upperDigits} {
				s := "%" + high[b>>4:b>>4+1] + low[b&15:b&15+1]
				checkNormal(t, s, want, true)
				checkNormal(t, "x"+s+"1f", "x"+want+"1f", true)
				checkNormal(t, s+s, want+want, true)
			}
		}
	}
}

func TestNormalizeOfAllBytesAfterPercent(t *testing.T) {
	for high := range 256 {
		for low := range 256 {
			s := "%" + single(high) + single(low)
			want, ok := expectedNormal(s)
			checkNormal(t, s, want, ok)
		}
	}
}

func TestNormalizeFollowsTheExpressions(t *testing.T) {
	texts := append(neighbours("a%7e%c3/"), pieceSequences([]string{"%", "4", "1", "f", "G", "~", "#"}, 6)...)
	for _, s := range texts {
		want, ok := expectedNormal(s)
		checkNormal(t, s, want, ok)
		if again, okAgain := target.Normalize(want); again != want || !okAgain {
			t.Errorf("Normalize(%q) = %q, %t: it is normal already", want, again, okAgain)
		}
	}
}

func TestNormalizeOfLongTexts(t *testing.T) {
	checkNormal(t, strings.Repeat("%7e/%c3", 1<<17), strings.Repeat("~/%C3", 1<<17), true)
	checkNormal(t, strings.Repeat("%7e/%c3", 1<<17)+"%7", "", false)
}

// Promise 4.3

func TestSegments(t *testing.T) {
	for path, want := range map[string]string{
		"/a/./b/..":           "/a/",
		"/":                   "/",
		"/a":                  "/a",
		"/a/":                 "/a/",
		"/a/b":                "/a/b",
		"/.":                  "/",
		"/./":                 "/",
		"/..":                 "/",
		"/../":                "/",
		"/../..":              "/",
		"/../../a":            "/a",
		"/./.":                "/",
		"/./a":                "/a",
		"/a/.":                "/a/",
		"/a/./":               "/a/",
		"/a/..":               "/",
		"/a/../":              "/",
		"/a/../b":             "/b",
		"/a/b/..":             "/a/",
		"/a/b/../":            "/a/",
		"/a/b/../..":          "/",
		"/a/b/../../..":       "/",
		"/a/b/../../../c":     "/c",
		"/a/b/c/./../../g":    "/a/g",
		"/mid/content=5/../6": "/mid/6",
		"//":                  "//",
		"///":                 "///",
		"//..":                "/", // the empty segment is left out
		"//../":               "/",
		"//../a":              "/a",
		"/a//..":              "/a/",
		"/a//../b":            "/a/b",
		"/a/..//b":            "//b",
		"//.":                 "//",
		"/...":                "/...",
		"/..a/.b/a./b..":      "/..a/.b/a./b..",
		"/.../..":             "/",
		"/%2e%2e/a/%2E":       "/%2e%2e/a/%2E", // triplets are bytes like others
		"/?/../#":             "/#",
		"/a?/..":              "/",
		"/\x00/\xff/../\n":    "/\x00/\n",
		"/ ./. ":              "/ ./. ",
	} {
		if got := target.Segments(path); got != want {
			t.Errorf("Segments(%q) = %q", path, got)
		}
	}
}

func TestSegmentsOfOtherPaths(t *testing.T) {
	for _, path := range []string{"", ".", "..", "a", "a/..", "a/./b", "./", "../a", "?/..", "http://h/a/..", " /..", "%2f/..", "\x00", "\\a/.."} {
		if got := target.Segments(path); got != path {
			t.Errorf("Segments(%q) = %q", path, got)
		}
	}
}

func TestSegmentsFollowsTheWords(t *testing.T) {
	texts := pieceSequences([]string{"/", ".", "..", "/..", "/.", "a"}, 6)
	texts = append(texts, neighbours("/a/./b/../c")...)
	for _, s := range texts {
		for _, path := range []string{s, "/" + s} {
			want := expectedSegments(path)
			if got := target.Segments(path); got != want {
				t.Fatalf("Segments(%q) = %q and not %q", path, got, want)
			}
			if again := target.Segments(want); path[:min(1, len(path))] == "/" && again != want {
				t.Fatalf("Segments(%q) = %q, though it has no dot segments", want, again)
			}
		}
	}
}

func TestSegmentsOfLongPaths(t *testing.T) {
	const count = 1 << 18
	for _, c := range []struct{ path, want string }{
		{strings.Repeat("/", count), strings.Repeat("/", count)},
		{strings.Repeat("/..", count), "/"},
		{strings.Repeat("/.", count), "/"},
		{strings.Repeat("/abc", count), strings.Repeat("/abc", count)},
		{strings.Repeat("/a", count) + strings.Repeat("/..", count), "/"},
		{strings.Repeat("/a", count) + strings.Repeat("/..", count-1), "/a/"},
		{strings.Repeat("/a/..", count), "/"},
		{"/" + strings.Repeat("a", count) + strings.Repeat("/b/..", count) + "/c", "/" + strings.Repeat("a", count) + "/c"},
	} {
		if got := target.Segments(c.path); got != c.want {
			t.Errorf("Segments(%.40q..) = %.40q..", c.path, got)
		}
	}
}

// Promise 4.4

func uri(host string, port int, path string) api.URI {
	return api.URI{Host: host, Port: port, Path: path}
}

func uriWithQuery(host string, port int, path, query string) api.URI {
	return api.URI{Host: host, Port: port, Path: path, Query: query, HasQuery: true}
}

func TestParseWithHost(t *testing.T) {
	for _, c := range []struct {
		target, host string
		want         api.URI
	}{
		{"/a/../b%7e?x", "EXAMPLE.org:80", uriWithQuery("example.org", 80, "/b~", "x")},
		{"/a/../b%7e", "H:80", uri("h", 80, "/b~")},
		{"/", "h", uri("h", 80, "/")},
		{"/", "h:", uri("h", 80, "/")},
		{"/", "h:8080", uri("h", 8080, "/")},
		{"/?", "h", uriWithQuery("h", 80, "/", "")}, // an empty query is one
		{"/a?", "h", uriWithQuery("h", 80, "/a", "")},
		{"/a?b?c", "h", uriWithQuery("h", 80, "/a", "b?c")},
		{"/a??", "h", uriWithQuery("h", 80, "/a", "?")},
		{"/?/a/../b", "h", uriWithQuery("h", 80, "/", "/a/../b")}, // no segments there
		{"/..?..", "h", uriWithQuery("h", 80, "/", "..")},
		{"/?%7e%2f", "h", uriWithQuery("h", 80, "/", "~%2F")},
		{"/A%3fb", "h", uri("h", 80, "/A%3Fb")}, // no question mark
		{"/a%2f..", "h", uri("h", 80, "/a%2F..")},
		{"/a/%2e%2e/b", "h", uri("h", 80, "/b")}, // normalized first
		{"/a/%2E", "h", uri("h", 80, "/a/")},
		{"//x", "h", uri("h", 80, "//x")}, // no authority
		{"//x/..", "h", uri("h", 80, "//")},
		{"/http://x/", "h", uri("h", 80, "/http://x/")},
		{"/:80", "h", uri("h", 80, "/:80")},
	} {
		if got, errno := target.Parse(c.target, c.host); got != c.want || errno != api.OK {
			t.Errorf("Parse(%q, %q) = %+v, %d", c.target, c.host, got, errno)
		}
	}
}

func TestParseWithAuthority(t *testing.T) {
	for text, want := range map[string]api.URI{
		"http://h":               uri("h", 80, "/"),
		"http://h/":              uri("h", 80, "/"),
		"http://h?":              uriWithQuery("h", 80, "/", ""),
		"http://h?a/b":           uriWithQuery("h", 80, "/", "a/b"),
		"http://h?/../b":         uriWithQuery("h", 80, "/", "/../b"),
		"http://h/?a":            uriWithQuery("h", 80, "/", "a"),
		"http://h/a?b?c/d":       uriWithQuery("h", 80, "/a", "b?c/d"),
		"HTTP://EXAMPLE.Org:80/": uri("example.org", 80, "/"),
		"hTtP://h:81":            uri("h", 81, "/"),
		"http://h:":              uri("h", 80, "/"),
		"http://h:?x":            uriWithQuery("h", 80, "/", "x"),
		"http://h:00443/a":       uri("h", 443, "/a"),
		"http://h//a":            uri("h", 80, "//a"),
		"http://h/..":            uri("h", 80, "/"),
		"http://h/a/../b%7e%ff":  uri("h", 80, "/b~%FF"),
		"http://h/http://i/":     uri("h", 80, "/http://i/"),
	} {
		for _, host := range []string{"other:99", "h", "", ":", "a b", "\xff", "/"} { // it is not looked at
			if got, errno := target.Parse(text, host); got != want || errno != api.OK {
				t.Errorf("Parse(%q, %q) = %+v, %d", text, host, got, errno)
			}
		}
	}
}

func TestParseRefusesOtherForms(t *testing.T) {
	for _, text := range []string{
		"", "*", "a", "a/b", "h:80", "example.org:443", "?", "?a", ".", "../a", " /a", "%2f", "\\",
		"http:", "http:/", "http:/h", "http:h", "http//h/", "http", "ttp://h/", "xhttp://h/", " http://h/", "https://h/", "ftp://h/", "http:\\\\h/", "http;//h/",
		"/a%", "/%4", "/%zz", "/a#b", "/#", "/a b", "/\t", "/\x7f", "/\xc3\xa4", "/a\r\n", // the path
		"/?%", "/?a%4g", "/?#", "/a?b c", "/?\xff", "/?\x00", // the query
		"/%?41", "/%4?1", // both
		"http://h/%", "http://h/ ", "http://h/#", "http://h?%4", "http://h?a#b", "http://h/?\x7f",
	} {
		for _, host := range []string{"h", "example.org:80", "", "a b", ":"} { // ErrForm comes before ErrHost
			if got, errno := target.Parse(text, host); got != (api.URI{}) || errno != api.ErrForm {
				t.Errorf("Parse(%q, %q) = %+v, %d", text, host, got, errno)
			}
		}
	}
	for _, text := range []string{"http:///%", "http://?#", "http://a b/ ", "http://h:0/%zz"} {
		if got, errno := target.Parse(text, "h"); got != (api.URI{}) || errno != api.ErrForm {
			t.Errorf("Parse(%q) = %+v, %d", text, got, errno)
		}
	}
}

func TestParseRefusesMalformedAuthorities(t *testing.T) {
	for _, authority := range []string{"", ":", ":80", "h:0", "h:65536", "h:000080", "h:a", "h:1:2", "a b", " h", "h ", "u@h", "[::1]", "h#a", "h%41", "h%zz", "\xff", "h\r\n", "h,i"} {
		for _, rest := range []string{"/", "/?", "/a", "/a/../b%7e?c"} {
			if got, errno := target.Parse(rest, authority); got != (api.URI{}) || errno != api.ErrHost {
				t.Errorf("Parse(%q, %q) = %+v, %d", rest, authority, got, errno)
			}
		}
		for _, rest := range []string{"", "/", "?", "/a", "?b", "/a/../b%7e?c"} {
			if got, errno := target.Parse("http://"+authority+rest, "h"); got != (api.URI{}) || errno != api.ErrHost {
				t.Errorf("Parse(%q) = %+v, %d", "http://"+authority+rest, got, errno)
			}
		}
	}
	for _, host := range []string{"h/", "h?", "/", "?", "http://h", "http://h/"} {
		if got, errno := target.Parse("/a", host); got != (api.URI{}) || errno != api.ErrHost {
			t.Errorf("Parse of the host %q = %+v, %d", host, got, errno)
		}
	}
}

// targets are texts of all forms, with and without errors.
func targets() []string {
	all := append(neighbours("/a/../%7e?x"), neighbours("HTTP://H:81?%2f")...)
	all = append(all, pieceSequences([]string{"http://", "/", "?", "h", "..", "%2e", "%", ":"}, 5)...)
	return append(all, pieceSequences([]string{"/", "/..", "?", "a", "%41", "#", " "}, 5)...)
}

func TestParseFollowsItsParts(t *testing.T) {
	for _, text := range targets() {
		for _, host := range []string{"Example.org:8080", "h", ""} {
			want, wantErrno := expectedURI(text, host)
			if got, errno := target.Parse(text, host); got != want || errno != wantErrno {
				t.Fatalf("Parse(%q, %q) = %+v, %d and not %+v, %d", text, host, got, errno, want, wantErrno)
			}
		}
	}
}

func TestParseOfLongTargets(t *testing.T) {
	long := strings.Repeat("/a%7e", 1<<17)
	want := uriWithQuery("h", 80, strings.Repeat("/a~", 1<<17), strings.Repeat("/a~", 1<<17))
	for _, text := range []string{long + "?" + long, "http://h" + long + "?" + long} {
		if got, errno := target.Parse(text, "h"); got != want || errno != api.OK {
			t.Errorf("a long target: %d", errno)
		}
	}
}

// Promise 4.5

func TestKey(t *testing.T) {
	for want, u := range map[string]api.URI{
		"http://h/":              uri("h", 80, "/"),
		"http://h/b~":            uri("h", 80, "/b~"),
		"http://example.org/a?x": uriWithQuery("example.org", 80, "/a", "x"),
		"http://h/?":             uriWithQuery("h", 80, "/", ""),
		"http://h:8080/":         uri("h", 8080, "/"),
		"http://h:1/a?b?c":       uriWithQuery("h", 1, "/a", "b?c"),
		"http://h:65535/":        uri("h", 65535, "/"),
		"http://h:8/":            uri("h", 8, "/"),
		"http://h:800/":          uri("h", 800, "/"),
		// URIs that Parse does not return are written in the same way.
		"http://:0":                        {},
		"http://:-1":                       {Port: -1},
		"http://":                          {Port: 80},
		"http://h":                         {Host: "h", Port: 80},
		"http://h/a":                       {Host: "h", Port: 80, Path: "/a", Query: "not written"},
		"http://H_ \xff:80:99a/..%7e??#\n": {Host: "H_ \xff:80", Port: 99, Path: "a/..%7e?", Query: "#\n", HasQuery: true},
		"http://h:9223372036854775807":     {Host: "h", Port: 1<<63 - 1},
		"http://h:-9223372036854775808":    {Host: "h", Port: -1 << 63},
	} {
		if got := target.Key(u); got != want {
			t.Errorf("Key(%+v) = %q and not %q", u, got, want)
		}
	}
}

func TestResolve(t *testing.T) {
	base := uriWithQuery("example.org", 80, "/dir/file", "q")
	withPort := uri("h", 8080, "/")
	for _, c := range []struct {
		base api.URI
		ref  string
		want api.URI
	}{
		{base, "/a", uri("example.org", 80, "/a")},
		{base, "/", uri("example.org", 80, "/")},
		{base, "/a/../b%7e?x%2f", uriWithQuery("example.org", 80, "/b~", "x%2F")},
		{base, "/?", uriWithQuery("example.org", 80, "/", "")},
		{base, "/a//b", uri("example.org", 80, "/a//b")},
		{base, "/.//b", uri("example.org", 80, "//b")},
		{withPort, "/a", uri("h", 8080, "/a")},
		{base, "http://other", uri("other", 80, "/")},
		{base, "HTTP://Other:81/x?y", uriWithQuery("other", 81, "/x", "y")},
		{withPort, "http://h/a", uri("h", 80, "/a")}, // the port is not taken over
		{withPort, "hTTp://h?", uriWithQuery("h", 80, "/", "")},
		{api.URI{}, "http://h/a", uri("h", 80, "/a")}, // the base is not looked at
		{uri("a b", -1, ""), "http://h/a", uri("h", 80, "/a")},
		{uri("H", 80, ""), "/a", uri("h", 80, "/a")},
		{uri("H", 65535, ""), "/a", uri("h", 65535, "/a")},
		{uri("h:99", 80, ""), "/a", uri("h", 99, "/a")}, // the base is a text for Parse
		{uri("h:", 80, ""), "/a", uri("h", 80, "/a")},
	} {
		if got, ok := target.Resolve(c.base, c.ref); got != c.want || !ok {
			t.Errorf("Resolve(%+v, %q) = %+v, %t", c.base, c.ref, got, ok)
		}
	}
}

func TestResolveRefusesOtherReferences(t *testing.T) {
	for _, base := range []api.URI{uri("h", 80, "/a"), uri("h", 8080, "/a")} {
		for _, ref := range []string{
			"", "a", "a/b", ".", "..", "./a", "../a", "?x", "#x", "*", " /a", "https://h/", "http:/h", "http:a", "http//h", "mailto:a",
			"//", "//h", "//h/a", "///", "//?", "///a", // an authority
			"/#a", "/%", "/a b", "/?\xff", "/%zz", // no path or query
			"http://", "http:///a", "http://?", "http://h:0/", "http://a b/", "http://h/#a", "http://h/%", "http://u@h/",
		} {
			if got, ok := target.Resolve(base, ref); got != (api.URI{}) || ok {
				t.Errorf("Resolve(%+v, %q) = %+v, %t", base, ref, got, ok)
			}
		}
	}
	for _, base := range []api.URI{{}, {Port: 80}, uri("h", 0, ""), uri("h", -80, ""), uri("h", 65536, ""), uri("h", 1<<62, ""), uri("h", -1<<63, ""), uri("", 81, ""), uri("a b", 80, ""), uri("h:", 81, ""), uri("h:81", 81, ""), uri("h/x", 80, "")} {
		if got, ok := target.Resolve(base, "/a"); got != (api.URI{}) || ok {
			t.Errorf("Resolve(%+v, /a) = %+v, %t", base, got, ok)
		}
	}
}

func TestResolveFollowsParse(t *testing.T) {
	for _, base := range []api.URI{uri("h", 80, "/"), uriWithQuery("h", 8, "/x/y", "z"), {}} {
		for _, ref := range targets() {
			want, wantOK := expectedResolution(base, ref)
			if got, ok := target.Resolve(base, ref); got != want || ok != wantOK {
				t.Fatalf("Resolve(%+v, %q) = %+v, %t and not %+v, %t", base, ref, got, ok, want, wantOK)
			}
		}
	}
}

// Consequences

func TestParseReadsWhatKeyWrites(t *testing.T) {
	uriOfKey := map[string]api.URI{}
	for _, text := range targets() {
		for _, host := range []string{"Example.org:8080", "h:80", "h", "a-.9:65535"} {
			u, errno := target.Parse(text, host)
			if errno != api.OK {
				continue
			}
			key := target.Key(u)
			for _, otherHost := range []string{"", "other:99", host} {
				if got, errno := target.Parse(key, otherHost); got != u || errno != api.OK {
					t.Fatalf("Parse(%q, %q) = %+v, %d and not %+v", key, otherHost, got, errno, u)
				}
			}
			if other, known := uriOfKey[key]; known && other != u {
				t.Fatalf("%+v and %+v have the same key", u, other)
			}
			uriOfKey[key] = u
		}
	}
	if len(uriOfKey) < 1000 {
		t.Errorf("only %d keys", len(uriOfKey))
	}
}
