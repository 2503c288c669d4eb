package mediatype_test

import (
	"math/rand"
	"regexp"
	"slices"
	"strings"
	"testing"

	"variantproxy/api"
	"variantproxy/ascii"
	"variantproxy/mediatype"
)

// params returns parameters, of which names and Values are given in turn.
func params(namesAndValues ...string) []api.Param {
	var l []api.Param
	for pair := range slices.Chunk(namesAndValues, 2) {
		l = append(l, api.Param{Name: pair[0], Value: pair[1]})
	}
	return l
}

func media(major, sub string, namesAndValues ...string) api.MediaType {
	return api.MediaType{Type: major, Sub: sub, Params: params(namesAndValues...)}
}

func same(a, b api.MediaType) bool {
	return a.Type == b.Type && a.Sub == b.Sub && slices.Equal(a.Params, b.Params)
}

func clone(t api.MediaType) api.MediaType {
	return api.MediaType{Type: t.Type, Sub: t.Sub, Params: slices.Clone(t.Params)}
}

func single(b int) string {
	return string([]byte{byte(b)})
}

// reader is Parse or ParseRange.
type reader func(string) (api.MediaType, bool)

func checkReader(t *testing.T, name string, read reader, s string, want api.MediaType, wantOK bool) {
	t.Helper()
	if got, ok := read(s); !same(got, want) || ok != wantOK {
		t.Errorf("%s(%.80q) = %.200q, %v, not %.200q, %v", name, s, got, ok, want, wantOK)
	}
}

// checkType expects that both functions read this media type.
func checkType(t *testing.T, s string, want api.MediaType) {
	t.Helper()
	checkReader(t, "Parse", mediatype.Parse, s, want, true)
	checkReader(t, "ParseRange", mediatype.ParseRange, s, want, true)
}

// checkOnlyRange expects that s is this media range, but no media type.
func checkOnlyRange(t *testing.T, s string, want api.MediaType) {
	t.Helper()
	checkReader(t, "Parse", mediatype.Parse, s, api.MediaType{}, false)
	checkReader(t, "ParseRange", mediatype.ParseRange, s, want, true)
}

// checkMalformed expects that neither function reads one of the texts.
func checkMalformed(t *testing.T, texts ...string) {
	t.Helper()
	for _, s := range texts {
		checkReader(t, "Parse", mediatype.Parse, s, api.MediaType{}, false)
		checkReader(t, "ParseRange", mediatype.ParseRange, s, api.MediaType{}, false)
	}
}

// Promise 10.1, Parse and ParseRange

func TestParseOfMediaTypes(t *testing.T) {
	checkType(t, "text/html", media("text", "html"))
	checkType(t, "text/html;level=1", media("text", "html", "level", "1"))
	checkType(t, "text/html; Level=1;q=\"0.5\"", media("text", "html", "level", "1", "q", "0.5"))
	checkType(t, "a/b", media("a", "b"))
	checkType(t, "0/1", media("0", "1"))
	checkType(t, "image/svg+xml", media("image", "svg+xml"))
	checkType(t, "application/vnd.a-b_c.d+json;charset=UTF-8", media("application", "vnd.a-b_c.d+json", "charset", "UTF-8"))
}

func TestParseOfMediaRanges(t *testing.T) {
	checkOnlyRange(t, "*/*", media("*", "*"))
	checkOnlyRange(t, "text/*", media("text", "*"))
	checkOnlyRange(t, "TEXT/*", media("text", "*"))
	checkOnlyRange(t, "*/*;q=0.5", media("*", "*", "q", "0.5"))
	checkOnlyRange(t, "text/*; A=\"B c\" ;; d=E", media("text", "*", "a", "B c", "d", "E"))
	checkOnlyRange(t, " */*\t", media("*", "*"))
	checkOnlyRange(t, "\ttext/* ;a=b", media("text", "*", "a", "b"))
}

// A "*" that is not alone is an ordinary byte of a token, and what is alone in a
// parameter is no Type or Sub.
func TestParseOfTokensWithStars(t *testing.T) {
	for _, token := range []string{"**", "*a", "a*", "a*a", "***", "*.", "+*", "*-*"} {
		checkType(t, token+"/html", media(token, "html"))
		checkType(t, "text/"+token, media("text", token))
		checkType(t, token+"/"+token, media(token, token))
		checkOnlyRange(t, token+"/*", media(token, "*"))
		checkMalformed(t, "*/"+token, "*/"+token+";a=b")
	}
	checkMalformed(t, "*/a", "*/html", "*/html;a=b", " */html ", "*", "*;a=b", "**", "*/", "/*", "/", "*/*/*", "*/*/", "/*/*", "text/*/*", "*//*", "text/**/*", "* /*", "*/ *", "*/*,*/*", "text/* *")
	checkType(t, "a/b;*=*", media("a", "b", "*", "*"))
	checkType(t, "a/b;c=\"*\"", media("a", "b", "c", "*"))
	checkType(t, "a/b;c=\"*/*\"", media("a", "b", "c", "*/*"))
	checkOnlyRange(t, "*/*;*=*", media("*", "*", "*", "*"))
}

func TestParseReturnsTypeAndSubInLowerCase(t *testing.T) {
	checkType(t, "Text/HTML", media("text", "html"))
	checkType(t, "TEXT/html", media("text", "html"))
	checkType(t, "text/HtmL;LEVEL=A;b=\"C\"", media("text", "html", "level", "A", "b", "C"))
	checkType(t, "AZaz!#$%&'*+-.^_`|~019/ZA+za", media("azaz!#$%&'*+-.^_`|~019", "za+za"))
	checkOnlyRange(t, "AZ/*;A=Z", media("az", "*", "a", "Z"))
}

func TestParseOfParameters(t *testing.T) {
	for text, l := range map[string][]api.Param{
		"":                          nil,
		";":                         nil,
		" ; ;\t":                    nil,
		";a=b":                      params("a", "b"),
		" ;\ta=b ":                  params("a", "b"),
		";a=b;A=c;a=b":              params("a", "b", "a", "c", "a", "b"),
		";a=\"\"":                   params("a", ""),
		";a=\"b;c=d/e\";f=\"\\\"\"": params("a", "b;c=d/e", "f", `"`),
	} {
		checkType(t, "text/html"+text, api.MediaType{Type: "text", Sub: "html", Params: l})
		checkOnlyRange(t, "text/*"+text, api.MediaType{Type: "text", Sub: "*", Params: l})
		checkOnlyRange(t, "*/*"+text, api.MediaType{Type: "*", Sub: "*", Params: l})
	}
	for _, text := range []string{
		";q=1;a=/;b=c", ";a", ";a=", ";=b", ";a =b", ";a= b", ";a=b c", ";a=b/c",
		";a=\"b", ";a=\"b\"c", ";a=b;c", ";a=\"\n\"",
	} {
		checkMalformed(t, "text/html"+text, "text/*"+text, "*/*"+text)
	}
}

func TestParseOfMalformedValues(t *testing.T) {
	for _, value := range []string{
		"", " ", "text", "/", "//", "text/", "/html", "text//html", "text/html/", "/text/html", "text/html/a", "text html", "text\\html",
		"text /html", "text/ html", "text / html", "text\t/html", "text/\thtml", "te xt/html", "text/ht ml", "text/html a", "a text/html",
		"text/html,a/b", "text/html,", "(text)/html", "text/(html)", "text=/html", "text/html=a", "te@xt/html", "text/ht:ml", "text:/html",
		`"text"/html`, `text/"html"`, `"text/html"`, `text"/"html`, `text/html"`, `"text/html`, `text/html"a"`, `"";a/b`, `text/";"`,
		"t\xe4xt/html", "text/html\xff", "text/ht\u00e4ml", "text/html\x00", "text\x00/html", "text/html\r\n", "\ntext/html", "text/html\x7f", "\u00a0text/html", "text/html\v",
	} {
		checkMalformed(t, value, " "+value+"\t", value+";a=b", value+" ; a=\"b\"")
	}
	checkMalformed(t, ";", ";a=b", ";text/html", "a;text/html", "a;b=c/html", "a=b;c/d", "text;/html", "text/;html")
}

func TestParseTrimsTheText(t *testing.T) {
	for _, blanks := range []string{"", " ", "\t", " \t \t"} {
		checkType(t, blanks+"a/b"+blanks, media("a", "b"))
		checkType(t, blanks+"a/b"+blanks+";"+blanks+"c=d"+blanks, media("a", "b", "c", "d"))
		checkOnlyRange(t, blanks+"a/*"+blanks, media("a", "*"))
		checkOnlyRange(t, blanks+"*/*"+blanks, media("*", "*"))
	}
}

func TestParseOfEveryByteAtEachPlace(t *testing.T) {
	for b := range 256 {
		s := single(b)
		if ascii.Token(s) {
			checkType(t, "a"+s+"/b", media("a"+ascii.Lower(s), "b"))
			checkType(t, "a/"+s+"b", media("a", ascii.Lower(s)+"b"))
			checkOnlyRange(t, "a"+s+"/*", media("a"+ascii.Lower(s), "*"))
			continue
		}
		checkMalformed(t, "a"+s+"a/b", s+"/b", "a/"+s, "*"+s+"/*", "*/"+s+"*", "a/"+s+"*")
		if s != ";" {
			checkMalformed(t, "a/b"+s+"b", "a/*"+s+"*")
		}
		if s != "/" {
			checkMalformed(t, "a"+s+"b", "*"+s+"*")
		}
		if s != ";" && s != " " && s != "\t" {
			checkMalformed(t, "a/b"+s, "a/*"+s, "*/*"+s)
		}
	}
}

func TestParseOfLongTexts(t *testing.T) {
	const count = 200000
	long := strings.Repeat("x", count)
	checkType(t, strings.ToUpper(long)+"/"+long, media(long, long))
	checkOnlyRange(t, long+"/*", media(long, "*"))
	checkMalformed(t, long, long+long, strings.Repeat("/", count), strings.Repeat("a/", count), strings.Repeat("*", count))
	many := api.MediaType{Type: "a", Sub: "b", Params: slices.Repeat(params("c", "D"), count)}
	checkType(t, "a/b"+strings.Repeat(";C=D", count), many)
}

// The expressions see each byte of a text as the character with its number.
const (
	tokenText     = "[A-Za-z0-9!#$%&'*+\\-.^_`|~]+"
	quotedText    = `"(?:[\x{09}\x{20}!#-\[\]-~\x{80}-\x{ff}]|\\[\x{09}\x{20}-~\x{80}-\x{ff}])*"`
	parameterText = `;[ \t]*(?:(` + tokenText + `)=(` + tokenText + `|` + quotedText + `)[ \t]*)?`
)

var (
	wholeText   = regexp.MustCompile(`\A[ \t]*(` + tokenText + `)/(` + tokenText + `)[ \t]*((?:` + parameterText + `)*)\z`)
	oneParam    = regexp.MustCompile(parameterText)
	escapedByte = regexp.MustCompile(`\\([\x00-\x{ff}])`)
)

func bytesAsCharacters(s string) string {
	characters := make([]rune, len(s))
	for i := range len(s) {
		characters[i] = rune(s[i])
	}
	return string(characters)
}

func charactersAsBytes(s string) string {
	var text []byte
	for _, character := range s {
		text = append(text, byte(character))
	}
	return string(text)
}

// expectedRange reads a text as promise 10.1 says, by expressions.
func expectedRange(s string) (api.MediaType, bool) {
	parts := wholeText.FindStringSubmatch(bytesAsCharacters(s))
	if parts == nil || strings.HasPrefix(strings.Trim(s, " \t"), "*/") && parts[2] != "*" {
		return api.MediaType{}, false
	}
	want := media(strings.ToLower(parts[1]), strings.ToLower(parts[2]))
	for _, parameter := range oneParam.FindAllStringSubmatch(parts[3], -1) {
		name, form := parameter[1], parameter[2]
		if name == "" {
			continue
		}
		if form[0] == '"' {
			form = escapedByte.ReplaceAllString(form[1:len(form)-1], "$1")
		}
		want.Params = append(want.Params, api.Param{Name: strings.ToLower(name), Value: charactersAsBytes(form)})
	}
	return want, true
}

func checkAgainstExpressions(t *testing.T, s string) {
	t.Helper()
	want, ok := expectedRange(s)
	switch {
	case !ok:
		checkMalformed(t, s)
	case want.Type == "*" || want.Sub == "*":
		checkOnlyRange(t, s, want)
	default:
		checkType(t, s, want)
	}
}

func TestParseOfSequencesOfPieces(t *testing.T) {
	sequences := []string{""}
	for range 6 {
		var longer []string
		for _, s := range sequences {
			for _, piece := range []string{"A", "*", "/", ";", "=", `"`, " "} {
				longer = append(longer, s+piece)
			}
		}
		sequences = longer
		for _, s := range sequences {
			for _, text := range []string{s, "a/" + s, "*/*" + s, "a/b;" + s, s + "/*;c=d"} {
				checkAgainstExpressions(t, text)
			}
		}
	}
}

func TestParseOfTextsWithOneByteChanged(t *testing.T) {
	for _, text := range []string{
		"",
		"/",
		"*/*",
		"a/*",
		"a/b",
		"text/html; Level=1;q=\"0.5\"",
		" */* ;q=0.5; ext=\"a,b\" ",
		"A+b/*;c=d;;\tE=\"\\\"\xe4;\";",
		"*/b;c=d",
	} {
		for i := range len(text) + 1 {
			for b := range 256 {
				checkAgainstExpressions(t, text[:i]+single(b)+text[i:])
				if i < len(text) {
					checkAgainstExpressions(t, text[:i]+single(b)+text[i+1:])
				}
			}
			checkAgainstExpressions(t, text[:i])
			checkAgainstExpressions(t, text[i:])
		}
	}
}

func TestParseKeepsNoMemory(t *testing.T) {
	for _, read := range []reader{mediatype.Parse, mediatype.ParseRange} {
		first, _ := read("a/b;c=d;e=f")
		for i := range first.Params {
			first.Params[i] = api.Param{Name: "x", Value: "y"}
		}
		_ = append(first.Params, api.Param{Name: "z"})
		checkType(t, "a/b;c=d;e=f", media("a", "b", "c", "d", "e", "f"))
	}
}

// Promise 10.1, Format

func checkFormat(t *testing.T, given api.MediaType, want string) {
	t.Helper()
	before := clone(given)
	if got := mediatype.Format(given); got != want {
		t.Errorf("Format(%.200q) = %.200q, not %.200q", given, got, want)
	}
	if !same(given, before) {
		t.Errorf("Format has changed its argument to %.200q", given)
	}
}

func TestFormat(t *testing.T) {
	checkFormat(t, media("text", "html"), "text/html")
	checkFormat(t, media("text", "*"), "text/*")
	checkFormat(t, media("*", "*"), "*/*")
	checkFormat(t, media("text", "html", "level", "1", "q", "0.5"), "text/html;level=1;q=0.5")
	checkFormat(t, media("*", "*", "b", "2", "a", "1", "b", "2"), "*/*;b=2;a=1;b=2")
	checkFormat(t, api.MediaType{Type: "a", Sub: "b", Params: []api.Param{}}, "a/b")
	for value, form := range map[string]string{
		"":     `""`,
		" ":    `" "`,
		"A":    "A",
		"c d":  `"c d"`,
		"c/d":  `"c/d"`,
		"*":    "*",
		`"`:    `"\""`,
		`\`:    `"\\"`,
		"\x00": "\"\x00\"",
		"\xe4": "\"\xe4\"",
	} {
		checkFormat(t, media("a", "b", "n", value, "m", value), "a/b;n="+form+";m="+form)
	}
}

// Format writes also what no text is read as.
func TestFormatDoesNotJudge(t *testing.T) {
	checkFormat(t, api.MediaType{}, "/")
	checkFormat(t, media("", "", "", ""), `/;=""`)
	checkFormat(t, media("*", "b"), "*/b")
	checkFormat(t, media("A", "B", "C", "D"), "A/B;C=D")
	checkFormat(t, media(" a", "b/c;d\x00", "E f", "g"), " a/b/c;d\x00;E f=g")
	long := strings.Repeat("x ", 100000)
	checkFormat(t, media(long, long, long, long), long+"/"+long+";"+long+"=\""+long+"\"")
}

func TestParseReadsWhatFormatWrites(t *testing.T) {
	tokens := []string{"a", "html", "0", "**", "x-y+z", "!#$%&'*+-.^_`|~"}
	var everyText []byte
	for b := range 256 {
		if ascii.Text(single(b)) {
			everyText = append(everyText, byte(b))
		}
	}
	random := rand.New(rand.NewSource(10))
	pick := func() string { return tokens[random.Intn(len(tokens))] }
	for range 20000 {
		var l []api.Param
		for range random.Intn(5) {
			content := make([]byte, random.Intn(8))
			for i := range content {
				content[i] = everyText[random.Intn(len(everyText))]
			}
			l = append(l, api.Param{Name: pick(), Value: string(content)})
		}
		concrete := api.MediaType{Type: pick(), Sub: pick(), Params: l}
		checkType(t, mediatype.Format(concrete), concrete)
		partial := api.MediaType{Type: pick(), Sub: "*", Params: l}
		checkOnlyRange(t, mediatype.Format(partial), partial)
		everything := api.MediaType{Type: "*", Sub: "*", Params: l}
		checkOnlyRange(t, mediatype.Format(everything), everything)
	}
}

// Promise 10.2

func checkMatch(t *testing.T, r, given api.MediaType, want int) {
	t.Helper()
	rBefore, givenBefore := clone(r), clone(given)
	if got := mediatype.Match(r, given); got != want {
		t.Errorf("Match(%.200q, %.200q) = %d, not %d", r, given, got, want)
	}
	if !same(r, rBefore) || !same(given, givenBefore) {
		t.Errorf("Match has changed its arguments to %.200q and %.200q", r, given)
	}
}

func TestMatch(t *testing.T) {
	html := media("text", "html", "level", "1")
	checkMatch(t, media("text", "*"), html, 1)
	checkMatch(t, media("text", "html", "level", "1"), html, 3)
	checkMatch(t, media("text", "html", "level", "2"), html, -1)
	checkMatch(t, media("*", "*"), html, 0)
	checkMatch(t, media("text", "html"), html, 2)
	checkMatch(t, media("text", "html"), media("text", "html"), 2)
	checkMatch(t, media("text", "plain"), html, -1)
	checkMatch(t, media("image", "html"), html, -1)
	checkMatch(t, media("image", "*"), html, -1)
	checkMatch(t, media("html", "text"), html, -1)
	checkMatch(t, media("text", "html", "level", "1"), media("text", "html"), -1)
}

func TestMatchOfWhatIsRead(t *testing.T) {
	for texts, want := range map[[2]string]int{
		{"*/*", "text/html"}:                                   0,
		{"TEXT/*", "text/HTML;Level=1"}:                        1,
		{"Text/Html;LEVEL=1", "text/html;level=\"1\""}:         3,
		{"text/html;charset=UTF-8", "text/html;Charset=utf-8"}: 3,
		{"text/html;charset=utf-8", "text/html;charset=utf8"}:  -1,
		{"text/htm", "text/html"}:                              -1,
		{"text/html", "text/htm"}:                              -1,
	} {
		r, rOK := mediatype.ParseRange(texts[0])
		given, givenOK := mediatype.Parse(texts[1])
		if !rOK || !givenOK {
			t.Errorf("%q cannot be read", texts)
		}
		checkMatch(t, r, given, want)
	}
}

// The parameters of ranges with "*" are not looked at.
func TestMatchOfRangesWithStarsAndParameters(t *testing.T) {
	for _, given := range []api.MediaType{media("text", "html"), media("text", "html", "a", "b"), media("text", "plain", "level", "2")} {
		for _, l := range [][]api.Param{nil, {}, params("level", "1"), params("a", "b", "c", "d"), params("", "")} {
			checkMatch(t, api.MediaType{Type: "*", Sub: "*", Params: l}, given, 0)
			checkMatch(t, api.MediaType{Type: "text", Sub: "*", Params: l}, given, 1)
			checkMatch(t, api.MediaType{Type: "image", Sub: "*", Params: l}, given, -1)
		}
	}
}

func TestMatchOfParameters(t *testing.T) {
	given := media("a", "b", "x", "1", "y", "Two", "x", "3", "z", "")
	for _, matched := range [][]string{
		{},
		{"x", "1"},
		{"x", "3"}, // any of those with the name
		{"y", "Two"},
		{"y", "tWO"},
		{"z", ""},
		{"x", "1", "y", "two"},
		{"y", "two", "x", "1"}, // in any order
		{"x", "3", "x", "1"},
		{"x", "1", "x", "1"}, // equal ones count, too
		{"x", "1", "x", "1", "x", "1", "x", "1", "x", "1"},
		{"y", "two", "y", "TWO", "y", "Two"},
		{"z", "", "y", "TWO", "x", "3", "x", "1"},
	} {
		checkMatch(t, media("a", "b", matched...), given, 2+len(matched)/2)
		checkMatch(t, media("a", "c", matched...), given, -1)
		checkMatch(t, media("c", "b", matched...), given, -1)
	}
	for _, unmatched := range [][]string{
		{"x", "2"},
		{"x", ""},
		{"x", "11"},
		{"", "1"},
		{"X", "1"}, // names are compared with regard to case
		{"y", "1"},
		{"w", "1"},
		{"Two", "y"},
		{"z", " "},
		{"z", "z"},
		{"x1", ""},
		{"y", "Tw"},
		{"y", "Twoo"},
		{"x", "1", "x", "2"},
		{"x", "2", "x", "1"},
		{"x", "1", "y", "Two", "w", ""},
		{"w", "", "x", "1", "y", "Two"},
	} {
		checkMatch(t, media("a", "b", unmatched...), given, -1)
	}
}

// The case of ASCII letters is disregarded, and of nothing else.
func TestMatchOfValuesWithOtherBytes(t *testing.T) {
	for first := range 256 {
		for second := range 256 {
			want := -1
			if strings.EqualFold(single(first), single(second)) && max(first, second) < 128 || first == second {
				want = 3
			}
			checkMatch(t, media("a", "b", "c", single(first)+"x"), media("a", "b", "c", single(second)+"X"), want)
		}
	}
	for _, pair := range [][2]string{{"\u00e4", "\u00c4"}, {"k", "\u212a"}, {"s", "\u017f"}} {
		checkMatch(t, media("a", "b", "c", pair[0]), media("a", "b", "c", pair[1]), -1)
	}
}

// Types and Subs are compared as they are, since the functions that read them
// return them in lower case.
func TestMatchOfWhatIsNotRead(t *testing.T) {
	checkMatch(t, api.MediaType{}, api.MediaType{}, 2)
	checkMatch(t, media("TEXT", "html"), media("text", "html"), -1)
	checkMatch(t, media("text", "HTML"), media("text", "html"), -1)
	checkMatch(t, media("TEXT", "*"), media("text", "html"), -1)
	checkMatch(t, media("*", "html"), media("text", "html"), -1)
	checkMatch(t, media("*", "html"), media("*", "html"), 2)
	checkMatch(t, media("*", ""), media("text", "html"), -1)
	checkMatch(t, media("", "*"), media("text", "html"), -1)
	checkMatch(t, media("", "*"), media("", "html"), 1)
	// A "*" stands for other texts in the range only, not in the media type.
	checkMatch(t, media("text", "html"), media("*", "*"), -1)
	checkMatch(t, media("text", "html"), media("text", "*"), -1)
	checkMatch(t, media("text", "*", "a", "b"), media("text", "*", "a", "b"), 1)
	checkMatch(t, media("*", "*", "a", "b"), media("*", "*", "a", "b"), 0)
	checkMatch(t, media("*", "*"), media("", ""), 0)
}

// expectedMatch follows the words of promise 10.2.
func expectedMatch(r, given api.MediaType) int {
	if r.Type+"/"+r.Sub == "*/*" {
		return 0
	}
	if r.Sub == "*" && r.Type == given.Type {
		return 1
	}
	if r.Type != given.Type || r.Sub != given.Sub {
		return -1
	}
	for _, wanted := range r.Params {
		if !slices.ContainsFunc(given.Params, func(p api.Param) bool {
			return p.Name == wanted.Name && strings.EqualFold(p.Value, wanted.Value)
		}) {
			return -1
		}
	}
	return 2 + len(r.Params)
}

func TestMatchOfAllSmallRangesAndTypes(t *testing.T) {
	one := params("a", "x", "a", "X", "a", "y", "b", "x", "b", "")
	lists := [][]api.Param{nil}
	for _, first := range one {
		lists = append(lists, []api.Param{first})
		for _, second := range one {
			lists = append(lists, []api.Param{first, second})
		}
	}
	parts := []string{"*", "t", "T"}
	var all []api.MediaType
	for _, major := range parts {
		for _, sub := range parts {
			for _, l := range lists {
				all = append(all, api.MediaType{Type: major, Sub: sub, Params: l})
			}
		}
	}
	for _, r := range all {
		for _, given := range all {
			checkMatch(t, r, given, expectedMatch(r, given))
		}
	}
}

func TestMatchOfRandomParameters(t *testing.T) {
	random := rand.New(rand.NewSource(102))
	names, values := []string{"a", "b"}, []string{"x", "X", "y", "Y"}
	list := func() []api.Param {
		var l []api.Param
		for range random.Intn(6) {
			l = append(l, api.Param{Name: names[random.Intn(len(names))], Value: values[random.Intn(len(values))]})
		}
		return l
	}
	for range 50000 {
		r := api.MediaType{Type: "t", Sub: "s", Params: list()}
		given := api.MediaType{Type: "t", Sub: "s", Params: list()}
		checkMatch(t, r, given, expectedMatch(r, given))
	}
}

// The time of Match is no product of the numbers of parameters.
func TestMatchOfManyParameters(t *testing.T) {
	const count = 200000
	given := media("a", "b")
	for i := range count {
		given.Params = append(given.Params, api.Param{Name: ascii.Decimal(i), Value: "v"})
	}
	r := clone(given)
	slices.Reverse(r.Params)
	checkMatch(t, r, given, 2+count)
	r.Params[count/2].Value = "w"
	checkMatch(t, r, given, -1)
	checkMatch(t, media("a", "b", "0", "V"), given, 3)
}
