package piece_test

import (
	"slices"
	"strings"
	"testing"

	"variantproxy/piece"
)

// The cutting of promise 7.1, which 9.1 shares

// pieces returns all pieces of a value.
func pieces(value string, separator byte) []string {
	var all []string
	rest, more := value, true
	for more {
		var next string
		next, rest, more = piece.Cut(rest, separator)
		all = append(all, next)
	}
	return all
}

func checkPieces(t *testing.T, value string, separator byte, want ...string) {
	t.Helper()
	if got := pieces(value, separator); !slices.Equal(got, want) {
		t.Errorf("the pieces of %.60q at %q are %.200q, not %.200q", value, separator, got, want)
	}
}

func TestCut(t *testing.T) {
	for _, c := range []struct {
		value       string
		piece, rest string
		more        bool
	}{
		{"", "", "", false},
		{"a", "a", "", false},
		{",", "", "", true},
		{"a,", "a", "", true},
		{",a", "", "a", true},
		{" a ,b, c", " a ", "b, c", true}, // pieces are not trimmed
		{",,", "", ",", true},
		{`"a,b"`, `"a,b"`, "", false},
		{`"a,b",c,d`, `"a,b"`, "c,d", true},
		{`a,"b,c`, "a", `"b,c`, true},
		{`"a,b`, `"a,b`, "", false},
		{"a;b\r\n\x00\xff,c", "a;b\r\n\x00\xff", "c", true},
	} {
		if got, rest, more := piece.Cut(c.value, ','); got != c.piece || rest != c.rest || more != c.more {
			t.Errorf("Cut(%q) = %q, %q, %v", c.value, got, rest, more)
		}
	}
}

func TestCutAtEachSeparator(t *testing.T) {
	for b := range 256 {
		if b == '"' || b == '\\' || b == 'a' || b == 'b' {
			continue
		}
		s := string([]byte{byte(b)})
		checkPieces(t, "a", byte(b), "a")
		checkPieces(t, s+"a"+s+s+"b"+s, byte(b), "", "a", "", "b", "")
		checkPieces(t, `a"b`+s+`\"`+s+`"b`+s+"a", byte(b), `a"b`+s+`\"`+s+`"b`, "a")
		checkPieces(t, `"a\\"`+s+`"b`+s, byte(b), `"a\\"`, `"b`+s)
		checkPieces(t, `"\`+s+`"`+s+"b", byte(b), `"\`+s+`"`, "b")
		checkPieces(t, `a\`+s+`\"`+s+`"b\`+s, byte(b), `a\`, `\"`+s+`"b\`, "")
	}
}

func TestCutOfQuotedStrings(t *testing.T) {
	checkPieces(t, `"",";";"a"`, ';', `"",";"`, `"a"`)
	checkPieces(t, `"a;b"";";c`, ';', `"a;b"";"`, "c")
	checkPieces(t, `"\\\";";"\";`, ';', `"\\\";"`, `"\";`)
	checkPieces(t, `"\a;\";";b`, ';', `"\a;\";"`, "b")
	checkPieces(t, `"a;\`, ';', `"a;\`)
	checkPieces(t, `"a;\\`, ';', `"a;\\`)
	checkPieces(t, `a;";\"`, ';', "a", `";\"`)
	// Outside quoted strings a backslash does not keep a quote from beginning one.
	checkPieces(t, `\";";a`, ';', `\";"`, "a")
}

func TestCutOfOtherBytesThanQuotes(t *testing.T) {
	for b := range 256 {
		if b == '"' || b == ';' {
			continue
		}
		s := string([]byte{byte(b)})
		checkPieces(t, s+"a;b"+s+";"+s, ';', s+"a", "b"+s, s)
		checkPieces(t, `"a`+s+`b;";`+s, ';', `"a`+s+`b;"`, s)
	}
}

func TestCutOfLongValues(t *testing.T) {
	long := strings.Repeat(" ;\\\"", 250000)
	checkPieces(t, `"`+long+`";a`, ';', `"`+long+`"`, "a")
	if got := pieces(strings.Repeat(",", 1000000), ','); len(got) != 1000001 {
		t.Errorf("%d pieces", len(got))
	}
}
