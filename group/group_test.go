package group_test

import (
	"math/rand"
	"regexp"
	"slices"
	"strings"
	"testing"

	"variantproxy/ascii"
	"variantproxy/group"
)

func single(b int) string {
	return string([]byte{byte(b)})
}

// checkParse expects these values of a group.
func checkParse(t *testing.T, s string, want ...string) {
	t.Helper()
	if values, ok := group.Parse(s); !slices.Equal(values, want) || !ok {
		t.Errorf("Parse(%.80q) = %.200q, %v, not %.200q", s, values, ok, want)
	}
}

// checkMalformed expects that none of the texts is a group.
func checkMalformed(t *testing.T, texts ...string) {
	t.Helper()
	for _, s := range texts {
		if values, ok := group.Parse(s); len(values) > 0 || ok {
			t.Errorf("Parse(%.80q) = %.200q, %v", s, values, ok)
		}
	}
}

// Promise 15.3, the part that 16.1 shares

func TestParse(t *testing.T) {
	checkParse(t, "(en fr)", "en", "fr")
	checkParse(t, "(gzip)", "gzip")
	checkParse(t, "(a b c d)", "a", "b", "c", "d")
	checkParse(t, "(a a A)", "a", "a", "A") // values are not compared
	checkParse(t, `("text/html;a=\"b\"" image/png)`, `text/html;a="b"`, "image/png")
}

func TestParseOfNoValues(t *testing.T) {
	checkParse(t, "()")
	checkParse(t, "( )")
	checkParse(t, "(   )")
	checkParse(t, `("")`, "") // the empty value is one
	checkParse(t, `("" "")`, "", "")
}

func TestParseOfSpaces(t *testing.T) {
	for _, spaces := range []string{" ", "  ", strings.Repeat(" ", 1000)} {
		checkParse(t, "("+spaces+"a)", "a")
		checkParse(t, "(a"+spaces+")", "a")
		checkParse(t, "("+spaces+"a"+spaces+"b"+spaces+")", "a", "b")
		checkParse(t, "("+spaces+`"a  b"`+spaces+`" "`+spaces+")", "a  b", " ")
	}
	// No other byte separates values,
	for b := range 256 {
		if s := single(b); s != " " {
			checkMalformed(t, `("a"`+s+`"b")`)
		}
	}
	// and there must be one.
	checkMalformed(t, `("a""b")`, `(a"b")`, `("a"b)`, `("""")`, `(a "b"c)`, `(a"" b)`, "(a\tb)", "(a \t b)", "(\ta)", "(a\t)", "(\t)")
	checkMalformed(t, " (a)", "(a) ", "\t(a)", "(a)\t", " ( ) ")
}

func TestParseOfParentheses(t *testing.T) {
	checkMalformed(t, "", " ", "(", ")", ")(", "a", "a b", "(a", "a)", "((a)", "(a))", "((a))", "(a)(b)", "(a) (b)", "(())", "(a(b)", "(a)b)", "(()", "())", "x(a)", "(a)x", "[a]", "{a}", "=(a)", `"(a)"`, `("(a)"`, `"("a)`, `("a)`, `("a)"`, `(a")`, `(")`, `("")"`)
	checkParse(t, `("(" ")" "()" "a)b(c")`, "(", ")", "()", "a)b(c")
}

func TestParseOfPlainValues(t *testing.T) {
	for b := range 256 {
		s := single(b)
		switch s {
		case " ":
			checkParse(t, "(a b)", "a", "b")
		case "\t", "(", ")", ",", `"`:
			checkMalformed(t, "("+s+")", "(a"+s+")", "("+s+"a)", "(a"+s+"b)", "(a "+s+")", "(a "+s+" b)")
		default:
			checkParse(t, "("+s+")", s)
			checkParse(t, "(a"+s+" "+s+"b"+s+"c)", "a"+s, s+"b"+s+"c")
		}
	}
	checkParse(t, `(\ \\ \a 'a b' a=b;c/d)`, `\`, `\\`, `\a`, "'a", "b'", "a=b;c/d")
	checkMalformed(t, "(a,b)", "(a, b)", "(,)", "(a,)", "(,a)", `(\")`, `(a\" b)`, `(\,)`, `(\ ( )`)
}

func TestParseOfQuotedValues(t *testing.T) {
	for form, value := range map[string]string{
		`""`:                "",
		`" "`:               " ",
		`"a"`:               "a",
		`"a b  c"`:          "a b  c",
		`"\a"`:              "a",
		`"\\"`:              `\`,
		`"\""`:              `"`,
		`"\"\\\""`:          `"\"`,
		`"a,b"`:             "a,b",
		`"(a)"`:             "(a)",
		`") ("`:             ") (",
		`"\)"`:              ")",
		"\"\t\\\t\"":        "\t\t",
		"\"\xff\\\x80\"":    "\xff\x80",
		`"a;b=\"c d\""`:     `a;b="c d"`,
		`"\" \" \" "`:       `" " " `,
		`"\\ \\\\ \\\" "`:   `\ \\ \" `,
		"\" \\ \\\\\\\" \"": `  \" `,
	} {
		checkParse(t, "("+form+")", value)
		checkParse(t, "(a "+form+" b)", "a", value, "b")
		checkParse(t, "("+form+" "+form+")", value, value)
	}
	for b := range 256 {
		s := single(b)
		if !ascii.Text(s) {
			checkMalformed(t, `("a`+s+`b")`, `("a\`+s+`b")`, `(a "`+s+`" b)`)
			continue
		}
		checkParse(t, `("a\`+s+`b" c)`, "a"+s+"b", "c")
		if s != `"` && s != `\` {
			checkParse(t, `("a`+s+`b" c)`, "a"+s+"b", "c")
		}
	}
	checkMalformed(t, `(")`, `("a)`, `("a b)`, `("a\")`, `("a\" b)`, `("\)`, `("a" "b)`, `("a" ")`, `("a"b")`, `("a"b" c)`, `("a"\)`, `(\"a")`, `("a\\"b")`, `(a" b")`)
}

// The expressions see each byte of a text as the character with its number.
const (
	quotedText = `"(?:[\x{09}\x{20}!#-\[\]-~\x{80}-\x{ff}]|\\[\x{09}\x{20}-~\x{80}-\x{ff}])*"`
	valueText  = `(?:[^ \t(),"]+|` + quotedText + `)`
)

var (
	wholeText   = regexp.MustCompile(`\A\( *((?:` + valueText + `(?: +` + valueText + `)*)?) *\)\z`)
	oneValue    = regexp.MustCompile(valueText)
	escapedByte = regexp.MustCompile(`(?s)\\(.)`)
)

func bytesAsCharacters(s string) string {
	characters := make([]rune, len(s))
	for i := range len(s) {
		characters[i] = rune(s[i])
	}
	return string(characters)
}

func charactersAsBytes(s string) string {
	var text []byte
	for _, character := range s {
		text = append(text, byte(character))
	}
	return string(text)
}

// checkAsExpressions expects what the words of promise 15.3 say, as expressions.
func checkAsExpressions(t *testing.T, s string) {
	t.Helper()
	inner := wholeText.FindStringSubmatch(bytesAsCharacters(s))
	if inner == nil {
		checkMalformed(t, s)
		return
	}
	var want []string
	for _, form := range oneValue.FindAllString(inner[1], -1) {
		if form[0] == '"' {
			form = escapedByte.ReplaceAllString(form[1:len(form)-1], "$1")
		}
		want = append(want, charactersAsBytes(form))
	}
	checkParse(t, s, want...)
}

func TestParseOfSequencesOfPieces(t *testing.T) {
	sequences := []string{""}
	for range 6 {
		var longer []string
		for _, s := range sequences {
			for _, piece := range []string{"a", " ", `"`, `\`, "(", ")", "\t"} {
				longer = append(longer, s+piece)
				checkAsExpressions(t, s+piece)
				checkAsExpressions(t, "("+s+piece+")")
			}
		}
		sequences = longer
	}
}

func TestParseOfTextsWithOneByteChanged(t *testing.T) {
	for _, text := range []string{
		"()",
		"(en fr)",
		`(  "a b" c  "\"\\"  d )`,
		"(\"\xff\t\\\xe4\" \xff\x00 ~)",
		`("a" "b c`,
		`("a b\`,
	} {
		for i := range len(text) + 1 {
			for b := range 256 {
				checkAsExpressions(t, text[:i]+single(b)+text[i:])
				if i < len(text) {
					checkAsExpressions(t, text[:i]+single(b)+text[i+1:])
				}
			}
			checkAsExpressions(t, text[:i])
			checkAsExpressions(t, text[i:])
		}
	}
}

func TestParseOfLongTexts(t *testing.T) {
	const count = 200000
	checkParse(t, "("+strings.Repeat(" ", count)+")")
	checkParse(t, "("+strings.Repeat("a ", count)+")", slices.Repeat([]string{"a"}, count)...)
	checkParse(t, "("+strings.Repeat(`"a b"  `, count)+")", slices.Repeat([]string{"a b"}, count)...)
	checkParse(t, "("+strings.Repeat("a", count)+")", strings.Repeat("a", count))
	checkParse(t, `("`+strings.Repeat(" )", count)+`")`, strings.Repeat(" )", count))
	checkMalformed(t, strings.Repeat("(", count)+strings.Repeat(")", count), "("+strings.Repeat("a ", count), "("+strings.Repeat("a ", count)+`")`, "("+strings.Repeat(`"" `, count)+",)")
}

func TestParseKeepsNoMemory(t *testing.T) {
	first, _ := group.Parse("(a b c)")
	for i := range first {
		first[i] = "x"
	}
	_ = append(first, "y")
	checkParse(t, "(a b c)", "a", "b", "c")
}

// Promise 15.4, the part that 16.2 shares

func checkFormat(t *testing.T, want string, values ...string) {
	t.Helper()
	given := slices.Clone(values)
	if got := group.Format(values); got != want {
		t.Errorf("Format(%.200q) = %.200q, not %.200q", values, got, want)
	}
	if !slices.Equal(values, given) {
		t.Errorf("Format has changed its argument to %.200q", values)
	}
}

func TestFormat(t *testing.T) {
	checkFormat(t, "(en fr)", "en", "fr")
	checkFormat(t, "(gzip)", "gzip")
	checkFormat(t, "()")
	checkFormat(t, `("")`, "")
	checkFormat(t, `("" "")`, "", "")
	checkFormat(t, `(a "b c" d)`, "a", "b c", "d")
	checkFormat(t, `("text/html;a=\"b\"" a;b=c)`, `text/html;a="b"`, "a;b=c")
	if got := group.Format([]string{}); got != "()" {
		t.Errorf("Format of no values = %q", got)
	}
}

func TestFormatQuotesWhatIsNotPlain(t *testing.T) {
	for b := range 256 {
		s := single(b)
		switch {
		case b == '"':
			checkFormat(t, `("\"" "a\"" "\"a" "a\"b")`, s, "a"+s, s+"a", "a"+s+"b")
		case b < 33 || b > 126 || b == '(' || b == ')' || b == ',':
			q := `"`
			checkFormat(t, "("+q+s+q+" "+q+"a"+s+q+" "+q+s+"a"+q+" "+q+"a"+s+"b"+q+")", s, "a"+s, s+"a", "a"+s+"b")
		default: // also the backslash, which is escaped in quoted strings only
			checkFormat(t, "("+s+" a"+s+" "+s+"a a"+s+"b)", s, "a"+s, s+"a", "a"+s+"b")
		}
	}
	checkFormat(t, `(\ "\\ " "\\\"")`, `\`, `\ `, `\"`)
	checkFormat(t, "(\"\u00e4\" \"a\u00e4\")", "\u00e4", "a\u00e4")
}

func TestFormatOfManyValues(t *testing.T) {
	const count = 200000
	checkFormat(t, "("+strings.Repeat(`a "b c" `, count)+"d)", append(slices.Repeat([]string{"a", "b c"}, count), "d")...)
}

func TestParseReadsWhatFormatWrites(t *testing.T) {
	var everyText []byte
	for b := range 256 {
		if ascii.Text(single(b)) {
			everyText = append(everyText, byte(b))
		}
	}
	checkParse(t, group.Format([]string{string(everyText)}), string(everyText))
	random := rand.New(rand.NewSource(15))
	for range 20000 {
		var values []string
		for range random.Intn(5) {
			value := make([]byte, random.Intn(6))
			for i := range value {
				value[i] = everyText[random.Intn(len(everyText))]
				if random.Intn(2) == 0 {
					value[i] = `a" \()`[random.Intn(6)]
				}
			}
			values = append(values, string(value))
		}
		checkParse(t, group.Format(values), values...)
	}
	// What Text does not accept is quoted, too, but no quoted string can hold it.
	checkMalformed(t, group.Format([]string{"\x00"}), group.Format([]string{"a", "b\n"}))
}
