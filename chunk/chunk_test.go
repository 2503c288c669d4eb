package chunk_test

import (
	"fmt"
	"regexp"
	"slices"
	"strconv"
	"strings"
	"testing"

	"variantproxy/api"
	"variantproxy/chunk"
	"variantproxy/fieldline"
)

const end = "0\r\n\r\n"

func single(b int) string {
	return string([]byte{byte(b)})
}

func isText(b int) bool {
	return b == 9 || b >= 32 && b <= 126 || b >= 128
}

// show shortens a text for a message.
func show(s string) string {
	if len(s) <= 120 {
		return strconv.Quote(s)
	}
	return fmt.Sprintf("%q ... %q (%d bytes)", s[:60], s[len(s)-40:], len(s))
}

func checkDecode(t *testing.T, s, content string, count int, errno api.Errno) {
	t.Helper()
	gotContent, gotCount, gotErrno := chunk.Decode(s)
	if gotContent != content || gotCount != count || gotErrno != errno {
		t.Errorf("Decode(%s) = %s, %d, %d and not %s, %d, %d", show(s), show(gotContent), gotCount, gotErrno, show(content), count, errno)
	}
}

// checkRead expects that s is one chunked body, whatever comes after it.
func checkRead(t *testing.T, s, content string) {
	t.Helper()
	for _, more := range []string{"", "x", "\r\n", "\n", "0\r\n\r\n", "\x00\xff", "GET / HTTP/1.1\r\n"} {
		checkDecode(t, s+more, content, len(s), api.OK)
	}
}

func checkRefused(t *testing.T, s string, errno api.Errno) {
	t.Helper()
	checkDecode(t, s, "", 0, errno)
}

// The parts of the model, which works with positions and expressions.
var (
	lineText = regexp.MustCompile(`(?s)\A([^\r\n]*)(\r\n|\r\z|\z|.)`)
	sizeText = regexp.MustCompile(`(?s)\A([0-9A-Fa-f]{1,8})(;.*)?\z`)
)

// expectedLine reads the line at a position as promise 5.2 says, and returns
// the position of the next one.
func expectedLine(s string, start int) (string, int, api.Errno) {
	parts := lineText.FindStringSubmatch(s[start:])
	switch {
	case len(parts[1]) > api.MaxLine:
		return "", 0, api.ErrLong
	case parts[2] == "" || parts[2] == "\r" && start+len(parts[0]) == len(s):
		return "", 0, api.ErrShort
	case parts[2] != "\r\n":
		return "", 0, api.ErrSyntax
	}
	return parts[1], start + len(parts[0]), api.OK
}

// expectedSize reads the text of a line with a size as promise 5.1 says.
func expectedSize(line string) (int, bool) {
	parts := sizeText.FindStringSubmatch(line)
	if parts == nil {
		return 0, false
	}
	for i := range len(parts[2]) {
		if !isText(int(parts[2][i])) {
			return 0, false
		}
	}
	size, err := strconv.ParseInt(parts[1], 16, 64)
	return int(size), err == nil
}

// expectedBody reads a chunked body as promises 5.1 to 5.3 say.
func expectedBody(s string) (string, int, api.Errno) {
	content, position, size := "", 0, -1
	for size != 0 {
		line, next, errno := expectedLine(s, position)
		if errno != api.OK {
			return "", 0, errno
		}
		var ok bool
		if size, ok = expectedSize(line); !ok {
			return "", 0, api.ErrSyntax
		}
		if len(content)+size > api.MaxBody {
			return "", 0, api.ErrBody
		}
		position = next
		if size == 0 {
			break
		}
		after := s[min(len(s), position+size):]
		if position+size > len(s) || after == "" || after == "\r" {
			return "", 0, api.ErrShort
		}
		if len(after) < 2 || after[:2] != "\r\n" {
			return "", 0, api.ErrSyntax
		}
		content += s[position : position+size]
		position += size + 2
	}
	for fields := 0; ; fields++ {
		line, next, errno := expectedLine(s, position)
		if errno != api.OK {
			return "", 0, errno
		}
		position = next
		if line == "" {
			return content, position, api.OK
		}
		if fields >= api.MaxFields {
			return "", 0, api.ErrLong
		}
		if _, errno := fieldline.Parse(line); errno != api.OK {
			return "", 0, errno
		}
	}
}

func checkModel(t *testing.T, s string) {
	t.Helper()
	content, count, errno := expectedBody(s)
	gotContent, gotCount, gotErrno := chunk.Decode(s)
	if gotContent != content || gotCount != count || gotErrno != errno {
		t.Fatalf("Decode(%s) = %s, %d, %d and not %s, %d, %d", show(s), show(gotContent), gotCount, gotErrno, show(content), count, errno)
	}
}

// Promise 5.1

func TestDecodeReadsChunks(t *testing.T) {
	for s, content := range map[string]string{
		"0\r\n\r\n":                                       "",
		"3\r\nabc\r\n0\r\n\r\n":                           "abc",
		"3\r\nabc\r\n2\r\nde\r\n0\r\n\r\n":                "abcde",
		"1\r\na\r\n1\r\nb\r\n1\r\nc\r\n0\r\n\r\n":         "abc",
		"00000003\r\nabc\r\n00\r\n\r\n":                   "abc",
		"3\r\nabc\r\n00000000\r\n\r\n":                    "abc",
		"a\r\n0123456789\r\n0\r\n\r\n":                    "0123456789",
		"A\r\n0123456789\r\n0\r\n\r\n":                    "0123456789",
		"0f\r\n0123456789abcde\r\n0\r\n\r\n":              "0123456789abcde",
		"1D\r\n" + strings.Repeat("d", 29) + "\r\n" + end: strings.Repeat("d", 29),
		"10\r\n0123456789abcdef\r\n0\r\n\r\n":             "0123456789abcdef", // not ten
		"2\r\n\r\n\r\n0\r\n\r\n":                          "\r\n",
		"1\r\n\r\r\n0\r\n\r\n":                            "\r",
		"1\r\n\n\r\n0\r\n\r\n":                            "\n",
		"5\r\n0\r\n\r\n\r\n0\r\n\r\n":                     "0\r\n\r\n", // a chunk may look like the end
		"4\r\n\x00\xff\xc3\xa4\r\n0\r\n\r\n":              "\x00\xff\xc3\xa4",
		"3;\r\nabc\r\n0;\r\n\r\n":                         "abc",
		"3;x=y\r\nabc\r\n0;z\r\n\r\n":                     "abc",
		"3; x = \"y;z\" ;;\t \r\nabc\r\n0;0\r\n\r\n":      "abc",
		"3;\xff\x80~ \r\nabc\r\n0\r\n\r\n":                "abc",
		"3;99\r\nabc\r\n0\r\n\r\n":                        "abc",
		"3\r\nabc\r\n0\r\nA: b\r\n\r\n":                   "abc",
		"0\r\nA: b\r\nA: c\r\nX:\r\n\r\n":                 "",
		"0\r\nContent-Length:5\r\nHost: a\r\n\r\n":        "", // the names are not looked at
		"0;x\r\nA:\t\xff \r\n\r\n":                        "",
	} {
		checkRead(t, s, content)
	}
}

func TestDecodeOfEveryByteOfTheContent(t *testing.T) {
	for b := range 256 {
		s := single(b)
		checkRead(t, "1\r\n"+s+"\r\n"+end, s)
		checkRead(t, "3\r\n"+s+s+s+"\r\n"+end, s+s+s)
	}
}

func TestDecodeOfEveryByteOfASize(t *testing.T) {
	data := strings.Repeat("d", 0x1f)
	for b := range 256 {
		s := single(b)
		digit := strings.IndexByte("0123456789abcdef", byte(b))
		if digit < 0 {
			digit = strings.IndexByte("0123456789ABCDEF", byte(b))
		}
		switch {
		case digit == 0:
			checkRead(t, s+"\r\n\r\n", "")
			checkRead(t, "1"+s+"\r\n"+data[:16]+"\r\n"+end, data[:16])
		case digit > 0:
			checkRead(t, s+"\r\n"+data[:digit]+"\r\n"+end, data[:digit])
			checkRead(t, "1"+s+"\r\n"+data[:16+digit]+"\r\n"+end, data[:16+digit])
		default:
			checkRefused(t, s+"\r\n"+end, api.ErrSyntax)
			checkRefused(t, s+"1\r\nd\r\n"+end, api.ErrSyntax)
			checkRefused(t, "0"+s+"1\r\nd\r\n"+end, api.ErrSyntax)
			if b != ';' {
				checkRefused(t, "1"+s+"\r\nd\r\n"+end, api.ErrSyntax)
				checkRefused(t, "0"+s+"\r\n\r\n", api.ErrSyntax)
			}
		}
	}
}

func TestDecodeOfEveryByteOfAnExtension(t *testing.T) {
	for b := range 256 {
		for _, extension := range []string{single(b), "x" + single(b), single(b) + "x", "x" + single(b) + "x"} {
			chunked, last := "1;"+extension+"\r\nd\r\n"+end, "0;"+extension+"\r\n\r\n"
			if isText(b) {
				checkRead(t, chunked, "d")
				checkRead(t, last, "")
			} else {
				checkRefused(t, chunked, api.ErrSyntax)
				checkRefused(t, last, api.ErrSyntax)
			}
		}
	}
}

func TestDecodeRefusesOtherSizes(t *testing.T) {
	for _, line := range []string{
		"", " ", ";", ";x", ";3", "g", "x", "3g", "g3", "0x3", "3x", "3h", "-3", "+3", "-0", "3.0", "3,3", "3 3",
		" 3", "3 ", "\t3", "3\t", "3 ;x", "3\t;x", "3x;", "3=x", "3:x", "\"3\"", "(3)",
		"000000003", "000000000", "100000000", "fffffffff", "00000000000000000000", // more than 8 digits
		"\xb3", "3\xff", "\xef\xbc\x93", "3\x00", "\x003", "3;\x00", "3;\x7f", "3;a\x1fb",
	} {
		checkRefused(t, line+"\r\nabc\r\n"+end, api.ErrSyntax)
		checkRefused(t, "1\r\nd\r\n"+line+"\r\nabc\r\n"+end, api.ErrSyntax)
		checkRefused(t, line+"\r\n", api.ErrSyntax) // before the bytes that are missing
	}
}

func TestDecodeOfTrailers(t *testing.T) {
	start := "1\r\nd\r\n0\r\n"
	for _, count := range []int{0, 1, 2, api.MaxFields - 1, api.MaxFields} {
		checkRead(t, start+strings.Repeat("A: b\r\n", count)+"\r\n", "d")
		checkRead(t, "0\r\n"+strings.Repeat("A:\r\n", count)+"\r\n", "")
	}
	for _, count := range []int{api.MaxFields + 1, api.MaxFields + 2, 10 * api.MaxFields} {
		checkRefused(t, start+strings.Repeat("A: b\r\n", count)+"\r\n", api.ErrLong)
		checkRefused(t, start+strings.Repeat("A: b\r\n", count), api.ErrLong)
	}
	// The lines before the content ends do not count.
	checkRead(t, strings.Repeat("1\r\nd\r\n", 200)+"0\r\n"+strings.Repeat("A: b\r\n", api.MaxFields)+"\r\n", strings.Repeat("d", 200))
}

func TestDecodeReturnsEveryNumberOfBytes(t *testing.T) {
	for size := range 600 {
		data := strings.Repeat("x", size)
		s := end
		if size > 0 {
			s = fmt.Sprintf("%x\r\n%s\r\n", size, data) + end
		}
		checkRead(t, s, data)
	}
}

// Promise 5.2

func TestDecodeOfLineEnds(t *testing.T) {
	// Each line of a body: the first size, another size, the last one, the
	// first field line, another one, and the empty line.
	lines := []string{"1;a", "x", "2;b", "yz", "0;c", "A: b", "C: d", ""}
	isData := []bool{false, true, false, true, false, false, false, false}
	for i := range lines {
		before := strings.Join(lines[:i+1], "\r\n")
		after := strings.Join(append(slices.Clone(lines[i+1:]), ""), "\r\n")
		checkRead(t, before+"\r\n"+after, "xyz")
		checkRefused(t, before, api.ErrShort)
		checkRefused(t, before+"\r", api.ErrShort)
		for _, lineEnd := range []string{"\n", "\n\r", "\n\r\n", "\rx", "\r\r", "\r\r\n", "\r \n", "\r\x00", "\r0"} {
			checkRefused(t, before+lineEnd, api.ErrSyntax)
			checkRefused(t, before+lineEnd+after, api.ErrSyntax)
		}
		if isData[i] {
			checkRefused(t, before+"x", api.ErrSyntax)
			checkRefused(t, before+"x\r\n"+after, api.ErrSyntax)
		}
	}
}

func TestDecodeOfEveryPrefix(t *testing.T) {
	for _, s := range []string{
		"0\r\n\r\n",
		"3\r\nabc\r\n0\r\n\r\n",
		"00000003;x=\"y\"\r\nab\n\r\n2\r\n\r\n\r\n000;\r\nA: b\r\nC:\r\n\r\n",
	} {
		for i := range len(s) {
			checkRefused(t, s[:i], api.ErrShort)
		}
	}
}

func TestDecodeOfLongLines(t *testing.T) {
	for _, c := range []struct{ before, line, after string }{
		{"", "1;", "\r\nd\r\n" + end},
		{"1\r\nd\r\n", "1;x", "\r\nd\r\n" + end},
		{"1\r\nd\r\n", "0;", "\r\n\r\n"},
		{"0\r\n", "A: ", "\r\n\r\n"},
		{"0\r\nA: b\r\n", "B: ", "\r\nC: d\r\n\r\n"},
	} {
		full := c.before + c.line + strings.Repeat("v", api.MaxLine-len(c.line))
		content := strings.Repeat("d", strings.Count(full+c.after, "\r\nd\r\n"))
		checkRead(t, full+c.after, content)
		checkRefused(t, full, api.ErrShort)
		checkRefused(t, full+"\r", api.ErrShort)
		checkRefused(t, full+"\n", api.ErrSyntax)
		checkRefused(t, full+"\rx", api.ErrSyntax)
		// ErrLong comes before all other errors of the line, also before its end
		// has come.
		for _, more := range []string{"v", "vvv", "\x00", " "} {
			for _, lineEnd := range []string{"", "\r", "\n", "\rx", "\r\n", c.after} {
				checkRefused(t, full+more+lineEnd, api.ErrLong)
			}
		}
	}
	for _, before := range []string{"", "1\r\nd\r\n", "0\r\n", "0\r\nA: b\r\n"} {
		bad := strings.Repeat("\x00", api.MaxLine)
		checkRefused(t, before+bad, api.ErrShort)
		checkRefused(t, before+bad+"\r\n", api.ErrSyntax)
		checkRefused(t, before+bad+"\x00", api.ErrLong)
		checkRefused(t, before+bad+"\x00\r\n", api.ErrLong)
	}
	checkRefused(t, strings.Repeat("0", 1<<20), api.ErrLong)
	checkRefused(t, "0\r\n"+strings.Repeat("A: b ", 1<<18), api.ErrLong)
}

func TestDecodeOfBytesLongerThanALine(t *testing.T) {
	for _, fill := range []string{"x", "\r", "\n"} {
		data := strings.Repeat(fill, 3*api.MaxLine)
		checkRead(t, fmt.Sprintf("%x\r\n%s\r\n", len(data), data)+end, data)
	}
}

// Promise 5.3

func TestDecodeOfLongBodies(t *testing.T) {
	full := strings.Repeat("f", api.MaxBody)
	for _, size := range []int{0, 1, 7, 1000, 65536, api.MaxBody - 1, api.MaxBody} {
		s := strings.TrimSuffix(chunk.Encode(full, size), end)
		checkRead(t, s+end, full)
		checkRead(t, s+"00000000;x\r\nA: b\r\n\r\n", full)
		checkRefused(t, s+"1\r\nx\r\n"+end, api.ErrBody)
		checkRefused(t, s+"ffffffff\r\n", api.ErrBody)
		checkRefused(t, s+"1\r\n", api.ErrBody)  // before the bytes have come
		checkRefused(t, s+"1;x\r", api.ErrShort) // but not before the line has
		checkRefused(t, s+"1;x\n\r\n", api.ErrSyntax)
		checkRefused(t, s+"1;\x00\r\n", api.ErrSyntax)
		checkRefused(t, s+"100000000\r\n", api.ErrSyntax)
	}
	for _, line := range []string{
		strconv.FormatInt(api.MaxBody+1, 16), "fffff", "00fffff", "FFFFFFFF", "ffffffff", "80000000", "7fffffff", "fffe7961", "80000001;x",
	} {
		checkRefused(t, line+"\r\n", api.ErrBody)
		checkRefused(t, line+"\r\n"+full+full+"\r\n"+end, api.ErrBody)
		checkRefused(t, "1\r\nx\r\n"+line+"\r\nx", api.ErrBody)
	}
	// What is left after a chunk, and one byte more.
	for _, taken := range []int{1, 2, 99, api.MaxBody / 2, api.MaxBody - 1} {
		first := strings.TrimSuffix(chunk.Encode(full[:taken], 0), end)
		checkRead(t, first+chunk.Encode(full[taken:], 0), full)
		checkRefused(t, first+chunk.Encode(full[taken-1:], 0), api.ErrBody)
		checkRefused(t, first+fmt.Sprintf("%x\r\n", api.MaxBody-taken), api.ErrShort)
		checkRefused(t, first+fmt.Sprintf("%x\r\n", api.MaxBody-taken+1), api.ErrBody)
	}
}

func TestDecodeOfMissingBytes(t *testing.T) {
	for s, errno := range map[string]api.Errno{
		"3\r\n":              api.ErrShort,
		"3\r\na":             api.ErrShort,
		"3\r\nab":            api.ErrShort,
		"3\r\nabc":           api.ErrShort,
		"3\r\nabc\r":         api.ErrShort,
		"3\r\nabc\r\n":       api.ErrShort,
		"3\r\n\r\n":          api.ErrShort, // its bytes are not judged
		"3\r\na\n":           api.ErrShort,
		"186a0\r\nabc\r\n":   api.ErrShort,
		"3\r\nabcd":          api.ErrSyntax,
		"3\r\nabcd\r\n":      api.ErrSyntax,
		"3\r\nabc\n":         api.ErrSyntax,
		"3\r\nabc\n\r":       api.ErrSyntax,
		"3\r\nabc0":          api.ErrSyntax,
		"3\r\nabc\rd":        api.ErrSyntax,
		"3\r\nabc\r\r\n":     api.ErrSyntax,
		"3\r\nabc 0":         api.ErrSyntax,
		"3\r\nab\r\n":        api.ErrSyntax,
		"3\r\nab\r\n0\r\n":   api.ErrSyntax,
		"3\r\nabc\r\n\r\n":   api.ErrSyntax, // an empty line is no size
		"3\r\nabc\r\n\n":     api.ErrSyntax,
		"0\r\nabc\r\n\r\n":   api.ErrSyntax, // a chunk of size 0 has no bytes
		"0\r\nd\r\n0\r\n":    api.ErrSyntax,
		"0\r\n3\r\nabc\r\n0": api.ErrSyntax,
		"":                   api.ErrShort,
		"0":                  api.ErrShort,
		"0\r\n":              api.ErrShort,
		"0\r\n\r":            api.ErrShort,
		"0\r\n\n":            api.ErrSyntax,
		"g\r\n":              api.ErrSyntax,
		"g":                  api.ErrShort,
	} {
		checkRefused(t, s, errno)
	}
}

func TestDecodeOfEveryByteAfterAChunk(t *testing.T) {
	for b := range 256 {
		s := single(b)
		if b != '\r' {
			checkRefused(t, "1\r\nd"+s, api.ErrSyntax)
			checkRefused(t, "1\r\nd"+s+"\n"+end, api.ErrSyntax)
		}
		if b != '\n' {
			checkRefused(t, "1\r\nd\r"+s, api.ErrSyntax)
			checkRefused(t, "1\r\nd\r"+s+end, api.ErrSyntax)
		}
	}
}

func TestDecodeOfMalformedTrailers(t *testing.T) {
	for _, line := range []string{"A", " ", "\t", ":b", "A :b", " A: b", "A b: c", "A\xff: b", "A: \x00", "A: b\x7f", "0", "\x00"} {
		for _, before := range []string{"0\r\n", "1\r\nd\r\n0;x\r\n", "0\r\nA: b\r\n"} {
			checkRefused(t, before+line+"\r\n\r\n", api.ErrSyntax)
			checkRefused(t, before+line+"\r\n", api.ErrSyntax)
			checkRefused(t, before+line+"\r\nA\nB", api.ErrSyntax)
			checkRefused(t, before+line, api.ErrShort) // the line has not ended
			checkRefused(t, before+line+"\r", api.ErrShort)
		}
	}
	// A field line that fits, but would not with the space that its formatted
	// line has.
	value := strings.Repeat("v", api.MaxLine-len("A: "))
	checkRead(t, "0\r\nA:"+value+"\r\n\r\n", "")
	checkRefused(t, "0\r\nA:"+value+"v\r\n\r\n", api.ErrLong)
	checkRefused(t, "0\r\nA:"+value+"v", api.ErrShort)
}

func TestDecodeOfTooManyFields(t *testing.T) {
	full := "0\r\n" + strings.Repeat("A: b\r\n", api.MaxFields)
	for more, errno := range map[string]api.Errno{
		"":               api.ErrShort,
		"\r":             api.ErrShort,
		"\n":             api.ErrSyntax,
		"\rx":            api.ErrSyntax,
		"A: b":           api.ErrShort, // the errors of the line come first
		"A: b\r":         api.ErrShort,
		"A: b\n":         api.ErrSyntax,
		"A: b\r\n":       api.ErrLong,
		"A: b\r\n\r\n":   api.ErrLong,
		"malformed\r\n":  api.ErrLong, // and before the errors of the field line
		" \r\n\r\n":      api.ErrLong,
		"\x00\r\n":       api.ErrLong,
		"A: b\r\n\n\r\n": api.ErrLong,
	} {
		checkRefused(t, full+more, errno)
	}
	checkRead(t, full+"\r\n", "")
	// The first error counts, not the number of lines.
	checkRefused(t, "0\r\nmalformed\r\n"+full[3:]+"A: b\r\n", api.ErrSyntax)
}

func TestDecodeReturnsTheFirstErrorFromTheLeft(t *testing.T) {
	long := strings.Repeat("x", api.MaxLine+1)
	wrong := []struct {
		s     string
		errno api.Errno
	}{
		{long + "\r\n", api.ErrLong},
		{"g\r\n", api.ErrSyntax},
		{"1\n", api.ErrSyntax},
		{"fffff\r\n", api.ErrBody},
		{"1\r\nxx", api.ErrSyntax},
		{"0\r\nA\r\n", api.ErrSyntax},
		{"0\r\n" + long, api.ErrLong},
		{"0\r\n" + strings.Repeat("A:\r\n", api.MaxFields+1), api.ErrLong},
	}
	for _, first := range wrong {
		for _, second := range wrong {
			checkRefused(t, first.s+second.s, first.errno)
			checkRefused(t, "1\r\nd\r\n"+first.s+second.s, first.errno)
		}
		checkRefused(t, first.s+end, first.errno)
		checkDecode(t, end+first.s, "", len(end), api.OK) // after the body, nothing is looked at
	}
}

// neighbours returns the strings that differ from s in one byte: replaced by
// each other byte, left out, or inserted.
func neighbours(s string) []string {
	var all []string
	for i := range len(s) + 1 {
		if i < len(s) {
			all = append(all, s[:i]+s[i+1:])
		}
		for b := range 256 {
			all = append(all, s[:i]+single(b)+s[i:])
			if i < len(s) {
				all = append(all, s[:i]+single(b)+s[i+1:])
			}
		}
	}
	return all
}

// eachSequence calls check with start and all sequences of at most count of the
// pieces after it.
func eachSequence(start string, pieces []string, count int, check func(string)) {
	check(start)
	if count == 0 {
		return
	}
	for _, piece := range pieces {
		eachSequence(start+piece, pieces, count-1, check)
	}
}

func TestDecodeFollowsTheModel(t *testing.T) {
	for _, s := range []string{
		"0\r\n\r\n",
		"3\r\nabc\r\n0\r\n\r\n",
		"1;x\r\n\n\r\n2\r\n\r\r\r\n0\r\nA: b\r\n\r\n",
		"186A0\r\n",
	} {
		checkModel(t, s)
		for _, neighbour := range neighbours(s) {
			checkModel(t, neighbour)
			checkModel(t, neighbour+end)
		}
	}
	check := func(s string) { checkModel(t, s) }
	eachSequence("", []string{"0", "1", "\r", "\n", "\r\n", "A:"}, 6, check)
	eachSequence("", []string{"\r\n", "0\r\n", "1\r\n", "x\r\n", "2;x\r\n", "xy", "A: b\r\n"}, 6, check)
	eachSequence("0\r\n"+strings.Repeat("A:\r\n", api.MaxFields-2), []string{"A:\r\n", "\r\n", "A\r\n", "A:", "\r", "\n"}, 5, check)
}

func TestDecodeOfLongTextsFollowsTheModel(t *testing.T) {
	long, body := strings.Repeat("x", api.MaxLine-5), strings.Repeat("y", api.MaxBody-3)
	check := func(s string) { checkModel(t, s) }
	eachSequence("", []string{"1;" + long, "A: " + long, "x", "xx", "\r\n", "0\r\n"}, 5, check)
	eachSequence(strings.TrimSuffix(chunk.Encode(body, 0), end), []string{"1\r\n", "2\r\n", "zz", "\r\n", "0\r\n"}, 4, check)
}

// Promise 5.4

func TestEncode(t *testing.T) {
	for _, c := range []struct {
		body string
		size int
		want string
	}{
		{"", 0, "0\r\n\r\n"},
		{"", 1, "0\r\n\r\n"},
		{"", -1, "0\r\n\r\n"},
		{"abc", 1, "1\r\na\r\n1\r\nb\r\n1\r\nc\r\n0\r\n\r\n"},
		{"abc", 2, "2\r\nab\r\n1\r\nc\r\n0\r\n\r\n"},
		{"abc", 3, "3\r\nabc\r\n0\r\n\r\n"},
		{"abc", 4, "3\r\nabc\r\n0\r\n\r\n"},
		{"abcd", 2, "2\r\nab\r\n2\r\ncd\r\n0\r\n\r\n"},
		{"abc", 0, "3\r\nabc\r\n0\r\n\r\n"},
		{"abc", -1, "3\r\nabc\r\n0\r\n\r\n"},
		{"abc", -1 << 63, "3\r\nabc\r\n0\r\n\r\n"},
		{"abc", 1<<63 - 1, "3\r\nabc\r\n0\r\n\r\n"},
		{"0123456789", 0, "a\r\n0123456789\r\n0\r\n\r\n"},
		{"0123456789abcde", 0, "f\r\n0123456789abcde\r\n0\r\n\r\n"},
		{"0123456789abcdef", 0, "10\r\n0123456789abcdef\r\n0\r\n\r\n"},
		{"0123456789abcdefg", 16, "10\r\n0123456789abcdef\r\n1\r\ng\r\n0\r\n\r\n"},
		{"\r\n\x00\xff\xc3\xa4", 4, "4\r\n\r\n\x00\xff\r\n2\r\n\xc3\xa4\r\n0\r\n\r\n"},
		{"\xc3\xa4", 1, "1\r\n\xc3\r\n1\r\n\xa4\r\n0\r\n\r\n"}, // bytes, not characters
	} {
		if got := chunk.Encode(c.body, c.size); got != c.want {
			t.Errorf("Encode(%q, %d) = %q", c.body, c.size, got)
		}
	}
}

// mixedBytes returns a body in which neighbouring bytes differ.
func mixedBytes(count int) string {
	body := make([]byte, count)
	for i := range body {
		body[i] = byte(i*7 + i>>8)
	}
	return string(body)
}

// expectedChunks writes a body as promise 5.4 says.
func expectedChunks(body string, size int) string {
	if size < 1 || size > len(body) {
		size = max(1, len(body))
	}
	var coded strings.Builder
	for start := 0; start < len(body); start += size {
		data := body[start : min(len(body)-start, size)+start]
		fmt.Fprintf(&coded, "%x\r\n%s\r\n", len(data), data)
	}
	return coded.String() + end
}

func TestEncodeOfEverySize(t *testing.T) {
	for _, count := range []int{0, 1, 2, 15, 16, 17, 255, 256, 257, 300} {
		body := mixedBytes(count)
		for size := -2; size <= count+2; size++ {
			if got, want := chunk.Encode(body, size), expectedChunks(body, size); got != want {
				t.Errorf("Encode of %d bytes in chunks of %d: %s", count, size, show(got))
			}
		}
	}
}

func TestEncodeOfLongBodies(t *testing.T) {
	for _, count := range []int{4095, 4096, 65535, 65536, api.MaxBody, api.MaxBody + 1, 0xabcdef, 1 << 24} {
		body := mixedBytes(count)
		for _, size := range []int{0, 4095, 65536, count - 1, count, count + 1} {
			if got, want := chunk.Encode(body, size), expectedChunks(body, size); got != want {
				t.Errorf("Encode of %d bytes in chunks of %d: %s", count, size, show(got))
			}
		}
	}
}

// Consequences

func TestDecodeReadsWhatEncodeWrites(t *testing.T) {
	for _, count := range []int{0, 1, 2, 9, 10, 15, 16, 17, 31, 32, 100, 255, 256, 2001, 4096, api.MaxBody - 1, api.MaxBody} {
		body := mixedBytes(count)
		for _, size := range []int{-1 << 63, -1, 0, 1, 2, 3, 10, 16, 17, 255, 256, 2000, 2001, 65536, api.MaxBody, 1 << 40, 1<<63 - 1} {
			checkRead(t, chunk.Encode(body, size), body)
		}
	}
	for b := range 256 {
		checkRead(t, chunk.Encode(single(b), 1), single(b))
	}
	tooLong := mixedBytes(api.MaxBody + 1)
	for _, size := range []int{0, 1, 1000, api.MaxBody, api.MaxBody + 1} {
		checkRefused(t, chunk.Encode(tooLong, size), api.ErrBody)
	}
}
