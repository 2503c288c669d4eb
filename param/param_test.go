package param_test

import (
	"math/rand"
	"regexp"
	"slices"
	"strings"
	"testing"

	"variantproxy/api"
	"variantproxy/ascii"
	"variantproxy/param"
)

// parsed are the results of Parse.
type parsed struct {
	value string
	l     []api.Param
	ok    bool
}

// with returns the results for a value and its parameters, of which names and
// Values are given in turn.
func with(value string, namesAndValues ...string) parsed {
	var l []api.Param
	for pair := range slices.Chunk(namesAndValues, 2) {
		l = append(l, api.Param{Name: pair[0], Value: pair[1]})
	}
	return parsed{value, l, true}
}

func checkParse(t *testing.T, s string, want parsed) {
	t.Helper()
	value, l, ok := param.Parse(s)
	if value != want.value || !slices.Equal(l, want.l) || ok != want.ok {
		t.Errorf("Parse(%.80q) = %.80q, %.200q, %v, not %.80q, %.200q, %v", s, value, l, ok, want.value, want.l, want.ok)
	}
}

// checkMalformed expects that none of the texts can be read.
func checkMalformed(t *testing.T, texts ...string) {
	t.Helper()
	for _, s := range texts {
		checkParse(t, s, parsed{})
	}
}

func single(b int) string {
	return string([]byte{byte(b)})
}

// Promise 9.1

func TestParse(t *testing.T) {
	checkParse(t, "text/html; Level=1;q=\"0.5\"", with("text/html", "level", "1", "q", "0.5"))
	checkParse(t, "text/html", with("text/html"))
	checkParse(t, "*;q=0", with("*", "q", "0"))
	checkParse(t, "en-gb;q=0.8", with("en-gb", "q", "0.8"))
	checkParse(t, "a;b=c;d=e;f=g", with("a", "b", "c", "d", "e", "f", "g"))
}

func TestParseTrimsTheValueAndDoesNotJudgeIt(t *testing.T) {
	for _, value := range []string{"a", "A/B", "a b\tc", "a=b", "a,b", "*/*", "=", "/", "a\\", "\\", "\x00", "\r\n", "\xff\xc3\xa4", "\u00a0a\u00a0", "\va\f", "'a"} {
		for _, blanks := range []string{"", " ", "\t", " \t \t"} {
			checkParse(t, blanks+value+blanks, with(value))
			checkParse(t, blanks+value+blanks+";b=c", with(value, "b", "c"))
		}
	}
}

func TestParseOfAnEmptyValue(t *testing.T) {
	for _, value := range []string{"", " ", "\t", " \t \t"} {
		checkMalformed(t, value, value+";", value+";a", value+";a=b", value+"; ;a=b", value+";;", value+";a=b;c=d")
	}
}

func TestParseSkipsEmptyPieces(t *testing.T) {
	for _, s := range []string{"a;", "a;;", "a; ", "a;\t", "a ; ; ;\t ;", "a" + strings.Repeat("; ", 1000)} {
		checkParse(t, s, with("a"))
		checkParse(t, s+";b=c", with("a", "b", "c"))
		checkParse(t, s+";b=c;; ;\td=e ; ", with("a", "b", "c", "d", "e"))
		checkMalformed(t, s+";b", s+";b;c=d", s+";b=c;;d")
	}
	checkMalformed(t, `a;""`, `a;" "`, "a;\u00a0", "a;\v", "a;\r\n", "a;\x00", `a;b=c;"";d=e`)
}

func TestParseTrimsPieces(t *testing.T) {
	for _, blanks := range []string{"", " ", "\t", " \t", "\t \t "} {
		checkParse(t, "a;"+blanks+"b=c", with("a", "b", "c"))
		checkParse(t, "a;b=c"+blanks, with("a", "b", "c"))
		checkParse(t, "a;"+blanks+"b=c"+blanks+";"+blanks+"d=\" e \""+blanks, with("a", "b", "c", "d", " e "))
	}
	checkMalformed(t, "a;\u00a0b=c", "a;b=c\r", "a;\nb=c", "a;\vb=c", "a;b=c\x00")
}

func TestParseReturnsNamesInLowerCase(t *testing.T) {
	checkParse(t, "A;B=C;lEvEl=X;Q=\"Y\"", with("A", "b", "C", "level", "X", "q", "Y"))
	checkParse(t, "a;AZaz!#$%&'*+-.^_`|~019=B", with("a", "azaz!#$%&'*+-.^_`|~019", "B"))
	// Parameters stay in order, also those with one name.
	checkParse(t, "a;b=1;B=2;a=3;b=1;b=4", with("a", "b", "1", "b", "2", "a", "3", "b", "1", "b", "4"))
}

func TestParseOfQuotedValues(t *testing.T) {
	for form, value := range map[string]string{
		`""`:               "",
		`" "`:              " ",
		`"c"`:              "c",
		`"\c"`:             "c",
		`"c;d=e"`:          "c;d=e",
		`"c\";d=e"`:        `c";d=e`,
		`"\\"`:             `\`,
		`"\\\""`:           `\"`,
		`"\"\""`:           `""`,
		`"c=d"`:            "c=d",
		`"c, d"`:           "c, d",
		"\" \tC\t \"":      " \tC\t ",
		"\"\\ \\\t\"":      " \t",
		"\"\xff\xc3\"":     "\xff\xc3",
		"\"\\\x80\\\xe4\"": "\x80\xe4",
		`";"`:              ";",
		`";;\";"`:          `;;";`,
	} {
		checkParse(t, "a;b="+form, with("a", "b", value))
		checkParse(t, "a; b="+form+" ; c=d", with("a", "b", value, "c", "d"))
		checkParse(t, "a;c=\"\\\";\";b="+form+";", with("a", "c", "\";", "b", value))
	}
}

// A quoted string in the value keeps its semicolons, its quotes and its
// backslashes, and without an end it takes the rest.
func TestParseOfQuotedStringsInTheValue(t *testing.T) {
	for _, value := range []string{`""`, `"a"`, `"a;b=c"`, `a";"b`, `a";b"";c"d`, `"\";b=c"`, `";\\"`, "\"\r\n;\"", `\";"`} {
		checkParse(t, value, with(value))
		checkParse(t, value+" ;b=c", with(value, "b", "c"))
	}
	for _, value := range []string{`"`, `"a;b`, `a";b=c`, `";b=c`, `"a\";b=c`, `"a"";b=c`, `"a;\`, `"a;\\`, `\"a;b=c`, `"\\\";b=c`} {
		checkParse(t, value, with(value))
		checkParse(t, " "+value+"\t", with(value))
		checkParse(t, value+";d=e", with(value+";d=e"))
		if value[len(value)-1] != '\\' {
			checkParse(t, value+`";d=e`, with(value+`"`, "d", "e"))
		}
	}
}

func TestParseOfMalformedParameters(t *testing.T) {
	for _, parameter := range []string{
		// The name is a token,
		"b", "=", "=c", "==", `="c"`, "b c=d", `"b"=c`, "b/c=d", "b(=c", "b,=c", "b\\=c", "\xe4=c", "b\x00=c", `"b`, `"=c"`,
		// and what follows "=" is a token or a quoted string.
		"b=", "b==", "b=c=d", "b==c", "b=c d", "b=c/d", "b=c,d", "b=(c)", "b=c\\", "b=\xe4", "b=c\x7f", "b='c d'", "b=c;d",
		`b="`, `b="c`, `b=c"`, `b="c"d`, `b=c"d"`, `b="c""d"`, `b="c" "d"`, `b="c"=d`, `b="c\"`, `b="\`, `b=\"c\"`, `b=c"d;e=f"`,
		"b=\"\x00\"", "b=\"\n\"", "b=\"\\\r\"", "b=\"\x7f\"", "b=\"\\\x00\"",
		// No blanks are permitted beside "=".
		"b =c", "b= c", "b = c", "b\t=c", "b=\tc", `b= "c"`, `b ="c"`, "b= ", " =c", "b=\t", `b= ""`,
	} {
		checkMalformed(t,
			"a;"+parameter,
			"a; "+parameter+" ",
			"a;"+parameter+";x=y",
			"a;x=y;"+parameter,
			"a;x=y; ;"+parameter+";;z=z",
			`a;x="y;";`+parameter,
			strings.Repeat("a;x=y", 1000)+";"+parameter,
		)
	}
}

func TestParseOfEveryByteAtEachPlace(t *testing.T) {
	for b := range 256 {
		s := single(b)
		var unquoted, quoted, escaped parsed
		if ascii.Token(s) {
			unquoted = with("a", "b"+ascii.Lower(s)+"b", "c"+s+"c")
		}
		if ascii.Text(s) {
			escaped = with("a", "b", "c"+s+"c", "d", "e")
		}
		switch s {
		case `"`:
		case `\`:
			quoted = with("a", "b", "cc", "d", "e") // it stands for the byte after it
		default:
			quoted = escaped
		}
		checkParse(t, "a;b"+s+"b=c"+s+"c", unquoted)
		checkParse(t, "a;b=\"c"+s+"c\";d=e", quoted)
		checkParse(t, "a;b=\"c\\"+s+"c\";d=e", escaped)
		if s != ";" && s != `"` {
			checkParse(t, "a"+s+"a;b=c", with("a"+s+"a", "b", "c"))
		}
	}
}

func TestParseOfLongTexts(t *testing.T) {
	const count = 200000
	long := strings.Repeat("x;", count)
	checkParse(t, `a;b="`+long+`"`, with("a", "b", long))
	checkParse(t, `"`+long, with(`"`+long))
	checkParse(t, "a"+strings.Repeat(" ;", count), with("a"))
	checkParse(t, "a;"+strings.Repeat("b", count)+"="+strings.Repeat("c", count), with("a", strings.Repeat("b", count), strings.Repeat("c", count)))
	checkMalformed(t, strings.Repeat(";", count), strings.Repeat(" ", count), "a;"+strings.Repeat("=", count), "a;"+strings.Repeat(" ;", count)+"b")
	many := with("a")
	for range count {
		many.l = append(many.l, api.Param{Name: "b", Value: "c"})
	}
	checkParse(t, "a"+strings.Repeat("; B=\"c\"", count), many)
	checkMalformed(t, "a"+strings.Repeat(";b=c", count)+";b")
}

// The expressions see each byte of a text as the character with its number.
const (
	tokenText     = "[A-Za-z0-9!#$%&'*+\\-.^_`|~]+"
	quotedText    = `"(?:[\x{09}\x{20}!#-\[\]-~\x{80}-\x{ff}]|\\[\x{09}\x{20}-~\x{80}-\x{ff}])*"`
	parameterText = `;[ \t]*(?:(` + tokenText + `)=(` + tokenText + `|` + quotedText + `)[ \t]*)?`
)

var (
	wholeText   = regexp.MustCompile(`(?s)\A((?:[^;"]|"(?:[^"\\]|\\.)*(?:"|\\?\z))*)((?:` + parameterText + `)*)\z`)
	oneParam    = regexp.MustCompile(parameterText)
	escapedByte = regexp.MustCompile(`(?s)\\(.)`)
)

func bytesAsCharacters(s string) string {
	characters := make([]rune, len(s))
	for i := range len(s) {
		characters[i] = rune(s[i])
	}
	return string(characters)
}

func charactersAsBytes(s string) string {
	var text []byte
	for _, character := range s {
		text = append(text, byte(character))
	}
	return string(text)
}

// expectedParse reads a text as promise 9.1 says, by expressions.
func expectedParse(s string) parsed {
	parts := wholeText.FindStringSubmatch(bytesAsCharacters(s))
	if parts == nil || strings.Trim(parts[1], " \t") == "" {
		return parsed{}
	}
	want := parsed{charactersAsBytes(strings.Trim(parts[1], " \t")), nil, true}
	for _, parameter := range oneParam.FindAllStringSubmatch(parts[2], -1) {
		name, form := parameter[1], parameter[2]
		if name == "" {
			continue
		}
		if form[0] == '"' {
			form = escapedByte.ReplaceAllString(form[1:len(form)-1], "$1")
		}
		want.l = append(want.l, api.Param{Name: strings.ToLower(name), Value: charactersAsBytes(form)})
	}
	return want
}

func TestParseOfSequencesOfPieces(t *testing.T) {
	sequences := []string{""}
	for length := range 7 {
		for _, s := range sequences {
			for _, text := range []string{s, "v;" + s, "v;B=" + s, `v;b="` + s, s + ";b=c"} {
				checkParse(t, text, expectedParse(text))
			}
		}
		if length == 6 {
			break
		}
		var longer []string
		for _, s := range sequences {
			for _, one := range []string{"A", "=", ";", `"`, `\`, " "} {
				longer = append(longer, s+one)
			}
		}
		sequences = longer
	}
}

func TestParseOfTextsWithOneByteChanged(t *testing.T) {
	for _, text := range []string{
		"",
		"text/html; Level=1;q=\"0.5\"",
		"a;b=c",
		`v ; a="b\"c;d=\\" ; E="" ;; f=g;`,
		"\"\xff;\\\"\";\tx=\"\\\xe4\";y=~",
		` */* ;q=0.5; ext="a,b" `,
		`v;a="b;c=d`,
		`v;a="b\`,
	} {
		for i := range len(text) + 1 {
			for b := range 256 {
				inserted := text[:i] + single(b) + text[i:]
				checkParse(t, inserted, expectedParse(inserted))
				if i < len(text) {
					replaced := text[:i] + single(b) + text[i+1:]
					checkParse(t, replaced, expectedParse(replaced))
				}
			}
			checkParse(t, text[:i], expectedParse(text[:i]))
			checkParse(t, text[i:], expectedParse(text[i:]))
		}
	}
}

func TestParseKeepsNoMemory(t *testing.T) {
	_, first, _ := param.Parse("a;b=c;d=e")
	for i := range first {
		first[i] = api.Param{Name: "x", Value: "y"}
	}
	_ = append(first, api.Param{Name: "z"})
	checkParse(t, "a;b=c;d=e", with("a", "b", "c", "d", "e"))
}

// Promise 9.2, Format

func checkFormat(t *testing.T, want, value string, namesAndValues ...string) {
	t.Helper()
	l := with(value, namesAndValues...).l
	given := slices.Clone(l)
	if got := param.Format(value, l); got != want {
		t.Errorf("Format(%.80q, %.200q) = %.200q, not %.200q", value, l, got, want)
	}
	if !slices.Equal(l, given) {
		t.Errorf("Format has changed its argument to %.200q", l)
	}
}

func TestFormat(t *testing.T) {
	checkFormat(t, "text/html", "text/html")
	checkFormat(t, "text/html;level=1;q=0.5", "text/html", "level", "1", "q", "0.5")
	checkFormat(t, `a;b="c d";e=f`, "a", "b", "c d", "e", "f")
	checkFormat(t, "a;b=1;a=2;b=1;B=0", "a", "b", "1", "a", "2", "b", "1", "B", "0")
	if got := param.Format("a", []api.Param{}); got != "a" {
		t.Errorf("Format without parameters = %q", got)
	}
}

func TestFormatQuotesValuesThatAreNoTokens(t *testing.T) {
	for value, form := range map[string]string{
		"":           `""`,
		" ":          `" "`,
		"a b":        `"a b"`,
		"a/b":        `"a/b"`,
		`"`:          `"\""`,
		`\`:          `"\\"`,
		`a"b\c`:      `"a\"b\\c"`,
		`"a"`:        `"\"a\""`,
		"a;b=c":      `"a;b=c"`,
		"\xe4\t":     "\"\xe4\t\"",
		"\x00\r\n":   "\"\x00\r\n\"", // what Text does not accept is written, too
		"0.5":        "0.5",
		"A!#$%&'*+-": "A!#$%&'*+-",
		".^_`|~9z":   ".^_`|~9z",
	} {
		checkFormat(t, "v;n="+form, "v", "n", value)
		checkFormat(t, "v;n="+form+";m="+form+";o=x", "v", "n", value, "m", value, "o", "x")
	}
	for b := range 256 {
		s := single(b)
		form := s
		if !ascii.Token(s) {
			form = ascii.Quote(s)
		}
		checkFormat(t, "v;n="+form, "v", "n", s)
	}
}

// Neither the value nor a name is judged, trimmed or put into lower case.
func TestFormatWritesValueAndNamesAsTheyAre(t *testing.T) {
	for _, s := range []string{"", " ", " a ", "A", "a b", `"`, `a";b`, ";", "=", "\x00\xff", "\r\n"} {
		checkFormat(t, s, s)
		checkFormat(t, s+";b=c", s, "b", "c")
		checkFormat(t, "a;"+s+"=c;"+s+`=""`, "a", s, "c", s, "")
	}
}

func TestFormatHasNoLimit(t *testing.T) {
	const count = 200000
	long := strings.Repeat("x ", count)
	checkFormat(t, long+";"+long+"=\""+long+"\"", long, long, long)
	l := slices.Repeat([]api.Param{{Name: "b", Value: "c d"}}, count)
	if got := param.Format("a", l); got != "a"+strings.Repeat(`;b="c d"`, count) {
		t.Errorf("Format of %d parameters = %.200q", count, got)
	}
}

// The chapter's consequence.
func TestParseReadsWhatFormatWrites(t *testing.T) {
	var everyText []byte
	for b := range 256 {
		if ascii.Text(single(b)) {
			everyText = append(everyText, byte(b))
		}
	}
	values := []string{"a", "text/html", "*/*", "A/b", "!#$%&'*+-.^_`|~/0"}
	names := []string{"q", "level", "a-b", "0", "!#$%&'*+-.^_`|~"}
	contents := []string{"", "1", "A", " ", " a ", "\t", `"`, `\`, `\"`, `""`, "a;b=c", ";", "=", `";b="`, "a, b", string(everyText), strings.Repeat(`\`, 999)}
	for _, value := range values {
		checkParse(t, param.Format(value, nil), with(value))
		for _, name := range names {
			for _, content := range contents {
				want := with(value, name, content)
				checkParse(t, param.Format(value, want.l), want)
			}
		}
	}
	random := rand.New(rand.NewSource(9))
	for range 20000 {
		want := with(values[random.Intn(len(values))])
		for range random.Intn(5) {
			content := make([]byte, random.Intn(8))
			for i := range content {
				content[i] = everyText[random.Intn(len(everyText))]
			}
			want.l = append(want.l, api.Param{Name: names[random.Intn(len(names))], Value: string(content)})
		}
		checkParse(t, param.Format(want.value, want.l), want)
	}
}

// Promise 9.2, Find

func TestFind(t *testing.T) {
	l := with("v", "a", "1", "b", "", "q", "0.5", "a", "2", "Q", "3", "B", "4", "", "5", " q", "6", "\xe4", "7").l
	given := slices.Clone(l)
	for name, want := range map[string]string{
		"a":    "1", // the first of several
		"b":    "",
		"q":    "0.5",
		"Q":    "3", // with regard to case
		"B":    "4",
		"":     "5",
		" q":   "6",
		"\xe4": "7",
	} {
		if got, ok := param.Find(l, name); got != want || !ok {
			t.Errorf("Find(%q) = %q, %v", name, got, ok)
		}
	}
	for _, name := range []string{"A", "c", "aa", "q ", " ", "0.5", "1", "\xc4", "\u00e4", "v"} {
		if got, ok := param.Find(l, name); got != "" || ok {
			t.Errorf("Find(%q) = %q, %v", name, got, ok)
		}
	}
	if !slices.Equal(l, given) {
		t.Errorf("Find has changed its argument to %q", l)
	}
	for _, none := range [][]api.Param{nil, {}} {
		if got, ok := param.Find(none, ""); got != "" || ok {
			t.Errorf("Find in no parameters = %q, %v", got, ok)
		}
	}
}

func TestFindOfParsedParameters(t *testing.T) {
	_, l, _ := param.Parse(`text/html;Level=1;q="0.5";LEVEL=2`)
	for name, want := range map[string]string{"level": "1", "q": "0.5"} {
		if got, ok := param.Find(l, name); got != want || !ok {
			t.Errorf("Find(%q) = %q, %v", name, got, ok)
		}
	}
	if got, ok := param.Find(l, "Level"); got != "" || ok {
		t.Errorf("Find(Level) = %q, %v", got, ok)
	}
}
