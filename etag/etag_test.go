package etag_test

import (
	"fmt"
	"slices"
	"strconv"
	"strings"
	"testing"

	"variantproxy/api"
	"variantproxy/etag"
)

// fields returns the fields that the lines hold, of which the value is kept as it
// stands behind the colon and a space.
func fields(lines ...string) []api.Field {
	var l []api.Field
	for _, line := range lines {
		name, value, _ := strings.Cut(line, ": ")
		l = append(l, api.Field{Name: name, Value: value})
	}
	return l
}

func strong(tag string) api.ETag {
	return api.ETag{Tag: tag}
}

func weak(tag string) api.ETag {
	return api.ETag{Weak: true, Tag: tag}
}

// numbered returns count different entity tags and their texts.
func numbered(count int) ([]api.ETag, []string) {
	var tags []api.ETag
	var texts []string
	for i := range count {
		tag := "t" + strconv.Itoa(i)
		if i%3 == 0 {
			tags, texts = append(tags, weak(tag)), append(texts, `W/"`+tag+`"`)
		} else {
			tags, texts = append(tags, strong(tag)), append(texts, `"`+tag+`"`)
		}
	}
	return tags, texts
}

// described returns what stands in an entity tag, also if it cannot be written.
func described(e api.ETag) string {
	return fmt.Sprintf("{%v %.60q}", e.Weak, e.Tag)
}

// shortened returns the beginning of the text of a list.
func shortened[T any](l []T) string {
	return fmt.Sprintf("%.300q", fmt.Sprint(l[:min(len(l), 20)]))
}

// checkParse expects this entity tag and true, also of a response, and that Format writes
// the text of the entity tag.
func checkParse(t *testing.T, s string, want api.ETag) {
	t.Helper()
	if got, ok := etag.Parse(s); !ok || got != want {
		t.Errorf("Parse(%.60q) = %s, %v, not %s", s, described(got), ok, described(want))
	}
	checkFormat(t, want, s)
	checkOf(t, fields("Host: a", "ETag: "+s), want)
}

// checkNoParse expects the zero entity tag and false, also of a response.
func checkNoParse(t *testing.T, s string) {
	t.Helper()
	if got, ok := etag.Parse(s); ok || got != (api.ETag{}) {
		t.Errorf("Parse(%.60q) = %s, %v", s, described(got), ok)
	}
	checkNoneOf(t, fields("Host: a", "ETag: "+s))
}

func checkFormat(t *testing.T, e api.ETag, want string) {
	t.Helper()
	if got := etag.Format(e); got != want {
		t.Errorf("Format(%s) = %.60q, not %.60q", described(e), got, want)
	}
}

// checkOf expects this entity tag and true.
func checkOf(t *testing.T, l []api.Field, want api.ETag) {
	t.Helper()
	before := slices.Clone(l)
	if got, ok := etag.Of(l); !ok || got != want {
		t.Errorf("Of(%s) = %s, %v, not %s", shortened(l), described(got), ok, described(want))
	}
	if !slices.Equal(l, before) {
		t.Errorf("Of has changed its argument to %s", shortened(l))
	}
}

// checkNoneOf expects the zero entity tag and false.
func checkNoneOf(t *testing.T, l []api.Field) {
	t.Helper()
	before := slices.Clone(l)
	if got, ok := etag.Of(l); ok || got != (api.ETag{}) {
		t.Errorf("Of(%s) = %s, %v", shortened(l), described(got), ok)
	}
	if !slices.Equal(l, before) {
		t.Errorf("Of has changed its argument to %s", shortened(l))
	}
}

// checkResultsOfList expects these results.
func checkResultsOfList(t *testing.T, l []api.Field, name string, want []api.ETag, wantStar, wantOK bool) {
	t.Helper()
	before := slices.Clone(l)
	got, star, ok := etag.List(l, name)
	if !slices.Equal(got, want) || star != wantStar || ok != wantOK {
		t.Errorf("List(%s, %.60q) = %s, %v, %v, not %s, %v, %v", shortened(l), name, shortened(got), star, ok, shortened(want), wantStar, wantOK)
	}
	if !slices.Equal(l, before) {
		t.Errorf("List has changed its argument to %s", shortened(l))
	}
}

// checkList expects these entity tags of the fields named If-None-Match.
func checkList(t *testing.T, l []api.Field, want ...api.ETag) {
	t.Helper()
	checkResultsOfList(t, l, "If-None-Match", want, false, true)
}

// checkStar expects "*" instead of entity tags of the fields named If-None-Match.
func checkStar(t *testing.T, l []api.Field) {
	t.Helper()
	checkResultsOfList(t, l, "If-None-Match", nil, true, true)
}

// checkNoList expects that the fields named If-None-Match are no list of entity tags.
func checkNoList(t *testing.T, l []api.Field) {
	t.Helper()
	checkResultsOfList(t, l, "If-None-Match", nil, false, false)
}

// checkEqual expects these results of Strong and Weak, whichever entity tag comes first.
func checkEqual(t *testing.T, a, b api.ETag, wantStrong, wantWeak bool) {
	t.Helper()
	if got, swapped := etag.Strong(a, b), etag.Strong(b, a); got != wantStrong || swapped != wantStrong {
		t.Errorf("Strong(%s, %s) = %v, and swapped %v", described(a), described(b), got, swapped)
	}
	if got, swapped := etag.Weak(a, b), etag.Weak(b, a); got != wantWeak || swapped != wantWeak {
		t.Errorf("Weak(%s, %s) = %v, and swapped %v", described(a), described(b), got, swapped)
	}
}

// malformed returns texts that are no entity tags and, in a list, no "*".
func malformed() []string {
	return []string{
		`"`, `W/`, `W/"`, `W`, `W"`, `/`, `W/*`,
		`a`, `W/a`, `"a`, `a"`, `W/"a`, `W/a"`, `'a'`, `a""`, `""a`,
		`w/"a"`, `W"a"`, `/"a"`, `"a"W/`, `W\"a"`, `W//"a"`, `W/ "a"`, `W /"a"`, `W/W/"a"`, `WW/"a"`, `S/"a"`, `"W/"a"`,
		`"""`, `W/"""`, `"a""`, `""a"`, `"a"b"`, `"a"b`, `""""`, `"a" "b"`, `"a""b"`, `"a"/W"b"`, `"a\"b"`,
		`"a b"`, `" "`, `" a"`, `"a "`, "\"a\tb\"", "\"\x00\"", "\"a\r\n\"", "\"\x1f\"", "\"\x7f\"", `W/"a b"`, "W/\"\x7f\"",
		`"a";q=1`, `"a"="b"`, `**`, `*"a"`, `"a"*`, `""*`, `* *`, "\u201ca\u201d", "\xff\"a\"", "\"a\"\x00", "\x00",
	}
}

// Promise 21.1, Parse and Format

func TestParse(t *testing.T) {
	checkParse(t, `"a"`, strong("a"))
	checkParse(t, `W/"a"`, weak("a"))
	checkParse(t, `"xyzzy"`, strong("xyzzy"))
	checkParse(t, `W/"5e1-ABC:9"`, weak("5e1-ABC:9"))
	// Nothing may stand between the quotes.
	checkParse(t, `""`, strong(""))
	checkParse(t, `W/""`, weak(""))
}

// What means something elsewhere means nothing between the quotes.
func TestParseOfSpecialBytes(t *testing.T) {
	for _, tag := range []string{"W/", "W/a", "*", ",", "a,b", `\`, `a\`, `\\`, `\a`, ";q=1", "'", "%22", "!", "~", "\u00e4", "\u201ca\u201d", "\x80", "\xff", "\xc3", "\u00a0", "\u2028"} {
		checkParse(t, `"`+tag+`"`, strong(tag))
		checkParse(t, `W/"`+tag+`"`, weak(tag))
	}
}

func TestParseOfOtherTexts(t *testing.T) {
	checkNoParse(t, "")
	checkNoParse(t, "*")
	for _, text := range malformed() {
		checkNoParse(t, text)
		checkNoParse(t, text+" ")
		checkNoParse(t, " "+text)
	}
}

// Neither blanks nor anything else may stand before or behind an entity tag.
func TestParseOfLongerTexts(t *testing.T) {
	for b := range 256 {
		single := string([]byte{byte(b)})
		for _, text := range []string{`"a"`, `W/"a"`, `""`, `W/""`} {
			checkNoParse(t, single+text)
			checkNoParse(t, text+single)
		}
	}
	checkNoParse(t, `"a", "b"`)
	checkNoParse(t, `"a","b"`)
	checkNoParse(t, `"a",`)
	checkNoParse(t, `,"a"`)
}

// Every byte stands alone, in the middle and at both ends of what is between the quotes.
func TestEveryByteOfTags(t *testing.T) {
	for b := range 256 {
		single := string([]byte{byte(b)})
		for _, tag := range []string{single, "n" + single + "n", single + "n", "n" + single, single + single} {
			if b == 33 || 35 <= b && b <= 126 || b >= 128 {
				checkParse(t, `"`+tag+`"`, strong(tag))
				checkParse(t, `W/"`+tag+`"`, weak(tag))
			} else {
				checkNoParse(t, `"`+tag+`"`)
				checkNoParse(t, `W/"`+tag+`"`)
				checkFormat(t, strong(tag), "")
				checkFormat(t, weak(tag), "")
			}
		}
	}
}

// Every byte in the place of every byte.
func TestEveryByteOfTexts(t *testing.T) {
	const text = `W/"a"`
	for place := range len(text) {
		for b := range 256 {
			changed := text[:place] + string([]byte{byte(b)}) + text[place+1:]
			switch {
			case changed == text:
				checkParse(t, changed, weak("a"))
			case place == 3 && (b == 33 || 35 <= b && b <= 126 || b >= 128):
				checkParse(t, changed, weak(changed[3:4]))
			default:
				checkNoParse(t, changed)
			}
		}
		checkNoParse(t, text[:place])
		if place != 2 && place != 0 {
			checkNoParse(t, text[place:])
		}
	}
}

func TestFormat(t *testing.T) {
	checkFormat(t, api.ETag{}, `""`)
	checkFormat(t, weak(""), `W/""`)
	checkFormat(t, strong("a"), `"a"`)
	checkFormat(t, weak("a"), `W/"a"`)
	checkFormat(t, strong("W/"), `"W/"`)
	// The quotes are not a part of the Tag.
	checkFormat(t, strong(`"a"`), "")
	checkFormat(t, weak(`"a"`), "")
	checkFormat(t, strong(`W/"a"`), "")
	checkFormat(t, strong(" a"), "")
	checkFormat(t, strong("a "), "")
	checkFormat(t, weak("a b"), "")
	checkFormat(t, strong("a\r\nb: c"), "")
}

func TestLongTags(t *testing.T) {
	long := strings.Repeat("Tag\xff", 50000)
	checkParse(t, `"`+long+`"`, strong(long))
	checkParse(t, `W/"`+long+`"`, weak(long))
	checkNoParse(t, `"`+long)
	checkNoParse(t, long+`"`)
	for _, other := range []string{long + " ", " " + long, long + `"` + long, long + "\x7f" + long} {
		checkNoParse(t, `"`+other+`"`)
		checkNoParse(t, `W/"`+other+`"`)
		checkFormat(t, strong(other), "")
		checkFormat(t, weak(other), "")
	}
	checkNoParse(t, strings.Repeat("W/", 50000)+`"a"`)
	checkNoParse(t, strings.Repeat(`"`, 100000))
}

// Promise 21.1, Of

func TestOf(t *testing.T) {
	checkOf(t, fields(`ETag: "a"`), strong("a"))
	checkOf(t, fields("Date: x", `ETag: W/"a"`, "Age: 1"), weak("a"))
	checkOf(t, fields(`etag: "a"`), strong("a"))
	checkOf(t, fields(`ETAG: ""`), strong(""))
	checkOf(t, fields(`eTaG: W/""`), weak(""))
	// A comma does not end it.
	checkOf(t, fields(`ETag: "a,b"`), strong("a,b"))
	checkOf(t, fields(`ETag: "a\"`), strong(`a\`))
}

func TestOfFieldsWithoutETag(t *testing.T) {
	checkNoneOf(t, nil)
	checkNoneOf(t, []api.Field{})
	checkNoneOf(t, fields(`If-None-Match: "a"`, `E-Tag: "b"`, `ETags: "c"`, `ETa: "d"`, `: "e"`, `ETag : "f"`, ` ETag: "g"`, `X-ETag: "h"`, `ET`+"\u00e4"+`g: "i"`))
}

// Only the first field counts, also if it is no entity tag.
func TestOfSeveralETags(t *testing.T) {
	checkOf(t, fields(`ETag: "a"`, `ETag: W/"b"`), strong("a"))
	checkOf(t, fields(`X: "x"`, `etag: W/"a"`, `ETag: "b"`, `ETAG: "c"`), weak("a"))
	checkOf(t, fields(`ETag: "a"`, "ETag: b"), strong("a"))
	checkOf(t, fields(`ETag: "a"`, "ETag: "), strong("a"))
	for _, text := range append(malformed(), "", "*") {
		checkNoneOf(t, fields("etag: "+text, `ETag: "b"`))
		checkNoneOf(t, fields("Host: a", "ETag: "+text, `ETag: W/"b"`, `etag: "c"`))
	}
}

// It is no list field.
func TestOfLists(t *testing.T) {
	checkNoneOf(t, fields(`ETag: "a", "b"`))
	checkNoneOf(t, fields(`ETag: "a",`))
	checkNoneOf(t, fields(`ETag: "a" `))
	checkNoneOf(t, fields("ETag: \t\"a\""))
	checkNoneOf(t, fields("ETag: *"))
	var lines []string
	for range 100000 {
		lines = append(lines, `ETag2: "b"`)
	}
	checkOf(t, fields(append(lines, `ETag: "a"`)...), strong("a"))
	checkNoneOf(t, fields(lines...))
}

// Promise 21.2

func TestList(t *testing.T) {
	checkList(t, fields(`If-None-Match: "a"`), strong("a"))
	checkList(t, fields(`If-None-Match: W/"a"`), weak("a"))
	checkList(t, fields(`If-None-Match: "b", W/"a" ,"c"`), strong("b"), weak("a"), strong("c"))
	checkList(t, fields(`If-None-Match: "", W/""`), strong(""), weak(""))
	// The order stays, and so do equal ones.
	checkList(t, fields(`If-None-Match: "b","a","b",W/"b"`), strong("b"), strong("a"), strong("b"), weak("b"))
	checkList(t, fields("If-None-Match: ,, \"a\"\t, ,W/\"b\",\t,"), strong("a"), weak("b"))
}

func TestListOfSeveralFields(t *testing.T) {
	checkList(t, fields(`If-None-Match: "b", "c"`, `ETag: "x"`, `if-none-match: W/"a"`, `If-Match: "y"`, `IF-NONE-MATCH: "d"`), strong("b"), strong("c"), weak("a"), strong("d"))
	checkList(t, fields("If-None-Match: ", `If-None-Match: "a"`, "If-None-Match: ,"), strong("a"))
	// Other fields do not matter, whatever they hold.
	checkList(t, fields("If-Match: *", `If-None-Match: "a"`, "If-None-Match2: b", "If-None: c", ": d", "If-None-Match : e"), strong("a"))
}

// The name may be any text, in any case.
func TestListOfNames(t *testing.T) {
	for _, name := range []string{"If-Match", "If-None-Match", "ETag", "x", "", "*", "a b", "\u00e4", "\xff"} {
		for _, one := range []string{name, asciiUpper(name), asciiLower(name)} {
			l := []api.Field{{Name: "Other", Value: `"x"`}, {Name: name, Value: `"a", W/"b"`}, {Name: "Other2", Value: "y"}}
			checkResultsOfList(t, l, one, []api.ETag{strong("a"), weak("b")}, false, true)
			l[1].Value = "*"
			checkResultsOfList(t, l, one, nil, true, true)
			l[1].Value = "a"
			checkResultsOfList(t, l, one, nil, false, false)
			checkResultsOfList(t, append(l[:1:1], l[2]), one, nil, false, false)
		}
	}
	checkResultsOfList(t, fields(`If-None-Match: "a"`, `If-Match: "b"`), "if-match", []api.ETag{strong("b")}, false, true)
	// Only A to Z have another case.
	checkResultsOfList(t, fields("\u00e4: \"a\""), "\u00c4", nil, false, false)
	checkResultsOfList(t, fields("\u212a: \"a\""), "k", nil, false, false)
}

func asciiUpper(s string) string {
	changed := []byte(s)
	for i, b := range changed {
		if 'a' <= b && b <= 'z' {
			changed[i] = b - 'a' + 'A'
		}
	}
	return string(changed)
}

func asciiLower(s string) string {
	changed := []byte(s)
	for i, b := range changed {
		if 'A' <= b && b <= 'Z' {
			changed[i] = b - 'A' + 'a'
		}
	}
	return string(changed)
}

func TestListWithoutMembers(t *testing.T) {
	checkNoList(t, nil)
	checkNoList(t, []api.Field{})
	checkNoList(t, fields(`If-Match: "a"`, `ETag: "b"`, "Host: *"))
	checkNoList(t, fields("If-None-Match: "))
	checkNoList(t, fields("If-None-Match:  ,\t,, "))
	checkNoList(t, fields("If-None-Match: ", "if-none-match: ,", "If-None-Match:  "))
	checkNoList(t, fields("If-None-Match: "+strings.Repeat(",", 100000)))
}

func TestListOfAsterisk(t *testing.T) {
	checkStar(t, fields("If-None-Match: *"))
	checkStar(t, fields("If-None-Match: ,\t*  ,,"))
	checkStar(t, fields("Host: a", "if-none-match: ", "IF-NONE-MATCH: *", "If-None-Match: , ", `If-Match: "a"`))
	// Between quotes it is an entity tag as others are.
	checkList(t, fields(`If-None-Match: "*"`), strong("*"))
	checkList(t, fields(`If-None-Match: W/"*", "*"`), weak("*"), strong("*"))
}

// As one of several members, "*" is no entity tag.
func TestListOfAsteriskAmongOthers(t *testing.T) {
	checkNoList(t, fields("If-None-Match: *, *"))
	checkNoList(t, fields("If-None-Match: *", "If-None-Match: *"))
	checkNoList(t, fields(`If-None-Match: *, "a"`))
	checkNoList(t, fields(`If-None-Match: "a", *`))
	checkNoList(t, fields(`If-None-Match: "a"`, "If-None-Match: *"))
	checkNoList(t, fields("If-None-Match: *", `If-None-Match: W/"a"`))
	checkNoList(t, fields(`If-None-Match: "a", *, "b"`))
	checkNoList(t, fields("If-None-Match: "+strings.Repeat("*,", api.MaxMembers)))
	checkNoList(t, fields("If-None-Match: "+strings.Repeat("*,", 100000)))
}

// Each of the members must be an entity tag, wherever it stands.
func TestListOfOtherMembers(t *testing.T) {
	for _, member := range malformed() {
		checkNoList(t, fields("If-None-Match: "+member))
		checkNoList(t, fields("If-None-Match: "+member, `If-None-Match: "a"`))
		checkNoList(t, fields(`If-None-Match: "a", `+member))
		checkNoList(t, fields(`If-None-Match: "a"`, `If-None-Match: W/"b", `+member, `If-None-Match: "c"`))
		checkNoList(t, fields("If-None-Match: "+member, "If-None-Match: *"))
	}
}

// A comma within a quoted string does not end a member.
func TestListOfTagsWithCommas(t *testing.T) {
	checkList(t, fields(`If-None-Match: "a,b"`), strong("a,b"))
	checkList(t, fields(`If-None-Match: ",", W/"a,,b,", "c"`), strong(","), weak("a,,b,"), strong("c"))
	checkNoList(t, fields(`If-None-Match: "a, b"`))
}

// As list.All cuts members, a quote behind a backslash does not end a quoted string, though
// a backslash means nothing in an entity tag.
func TestListOfTagsWithBackslashes(t *testing.T) {
	checkList(t, fields(`If-None-Match: "a\b", "\\", W/"\,"`), strong(`a\b`), strong(`\\`), weak(`\,`))
	checkList(t, fields(`If-None-Match: "a\"`), strong(`a\`))
	checkList(t, fields(`If-None-Match: "b", W/"a\"`), strong("b"), weak(`a\`))
	checkList(t, fields(`If-None-Match: "\"`, `If-None-Match: "b"`), strong(`\`), strong("b"))
	checkList(t, fields(`If-None-Match: "a\\", "b"`), strong(`a\\`), strong("b"))
	checkNoList(t, fields(`If-None-Match: "a\", "b"`))
	checkNoList(t, fields(`If-None-Match: "a\","b"`))
	checkNoList(t, fields(`If-None-Match: "a\","`))
}

// A quoted string without end reaches to the end of its field.
func TestListOfQuotedStringsWithoutEnd(t *testing.T) {
	checkNoList(t, fields(`If-None-Match: "a`))
	checkNoList(t, fields(`If-None-Match: "a, "b"`))
	checkNoList(t, fields(`If-None-Match: "a`, `If-None-Match: b"`))
	checkNoList(t, fields(`If-None-Match: "a,`, `If-None-Match: "b"`))
	checkNoList(t, fields(`If-None-Match: "b", "`))
}

func TestListOfEveryByte(t *testing.T) {
	for b := range 256 {
		single := string([]byte{byte(b)})
		within := fields(`If-None-Match: "a", W/"b`+single+`b"`, `If-None-Match: "c"`)
		before, behind := fields(`If-None-Match: "a",`+single+`"b"`), fields(`If-None-Match: "a"`+single+`,"b"`)
		if b == 33 || 35 <= b && b <= 126 || b >= 128 {
			checkList(t, within, strong("a"), weak("b"+single+"b"), strong("c"))
		} else {
			checkNoList(t, within)
		}
		if b == ',' || b == ' ' || b == '\t' {
			checkList(t, before, strong("a"), strong("b"))
			checkList(t, behind, strong("a"), strong("b"))
		} else {
			checkNoList(t, before)
			checkNoList(t, behind)
		}
	}
}

// With MaxMembers members, there may be others behind them.
func TestListOfManyMembers(t *testing.T) {
	most := api.MaxMembers - 1
	for _, count := range []int{1, 2, most - 1, most} {
		tags, texts := numbered(count)
		checkList(t, fields("If-None-Match: "+strings.Join(texts, ", ")), tags...)
		checkList(t, fields("If-None-Match: ,,"+strings.Join(texts, ",, ,")+", ,"), tags...)
	}
	for _, count := range []int{api.MaxMembers, api.MaxMembers + 1, 2 * api.MaxMembers, 100000} {
		_, texts := numbered(count)
		checkNoList(t, fields("If-None-Match: "+strings.Join(texts, ",")))
		checkNoList(t, fields("If-None-Match: "+strings.Repeat(`"a",`, count)))
	}
}

// The members of all fields are counted.
func TestListOfManyFields(t *testing.T) {
	tags, texts := numbered(api.MaxMembers - 1)
	var lines []string
	for _, text := range texts {
		lines = append(lines, "If-None-Match: "+text, `If-Match: "x"`, "if-none-match: ,")
	}
	checkList(t, fields(lines...), tags...)
	checkNoList(t, fields(append(lines, `If-None-Match: "a"`)...))
	checkNoList(t, fields(append(lines, "If-None-Match: *")...))
	checkNoList(t, fields(append(lines, "If-None-Match: a")...))
	checkNoList(t, fields("If-None-Match: "+strings.Join(texts[:40], ","), "If-None-Match: "+strings.Join(texts[:24], ",")))
	checkList(t, fields("If-None-Match: "+strings.Join(texts[:40], ","), "If-None-Match: "+strings.Join(texts[40:], ",")), tags...)
}

func TestListOfLongMembers(t *testing.T) {
	long := strings.Repeat("Tag,", 50000)
	checkList(t, fields(`If-None-Match: "a", W/"`+long+`"`, `If-None-Match: "`+long+`"`), strong("a"), weak(long), strong(long))
	checkNoList(t, fields(`If-None-Match: "a", W/"`+long+` "`))
	checkNoList(t, fields(`If-None-Match: "a", W/"`+long))
}

// Promise 21.3

func TestStrongAndWeak(t *testing.T) {
	checkEqual(t, strong("a"), strong("a"), true, true)
	checkEqual(t, strong("a"), weak("a"), false, true)
	checkEqual(t, weak("a"), weak("a"), false, true)
	checkEqual(t, strong("a"), strong("b"), false, false)
	checkEqual(t, strong("a"), weak("b"), false, false)
	checkEqual(t, weak("a"), strong("b"), false, false)
	checkEqual(t, weak("a"), weak("b"), false, false)
	checkEqual(t, api.ETag{}, api.ETag{}, true, true)
	checkEqual(t, api.ETag{}, weak(""), false, true)
}

// Tags are compared byte by byte, and nothing is judged.
func TestComparisonOfTags(t *testing.T) {
	long := strings.Repeat("Tag", 50000)
	tags := []string{"", "a", "A", "aa", "ab", "a ", " a", `"a"`, `W/"a"`, "W/a", "*", `\a`, "a\x00", "\x00", "\xff", "\u00e4", "\u00c4", "a\u0308", long, long + "x", "x" + long}
	for i, one := range tags {
		for j, other := range tags {
			checkEqual(t, strong(one), strong(other), i == j, i == j)
			checkEqual(t, strong(one), weak(other), false, i == j)
			checkEqual(t, weak(one), weak(other), false, i == j)
		}
	}
	for b := range 256 {
		for other := range 256 {
			one, two := string([]byte{'a', byte(b)}), string([]byte{'a', byte(other)})
			checkEqual(t, strong(one), strong(two), b == other, b == other)
		}
	}
}

// Both can be handed over as values.
func TestComparisonAsValue(t *testing.T) {
	tags, _, _ := etag.List(fields(`If-None-Match: W/"a", "b"`), "If-None-Match")
	contains := func(equal func(a, b api.ETag) bool, e api.ETag) bool {
		return slices.ContainsFunc(tags, func(tag api.ETag) bool { return equal(tag, e) })
	}
	for _, one := range []struct {
		e            api.ETag
		strong, weak bool
	}{{strong("a"), false, true}, {weak("a"), false, true}, {strong("b"), true, true}, {weak("b"), false, true}, {strong("c"), false, false}} {
		if contains(etag.Strong, one.e) != one.strong || contains(etag.Weak, one.e) != one.weak {
			t.Errorf("%s is found by Strong: %v, by Weak: %v", described(one.e), !one.strong, !one.weak)
		}
	}
}

// The chapter's example

func TestExample(t *testing.T) {
	one, _ := etag.Parse(`W/"a"`)
	other, _ := etag.Parse(`"a"`)
	checkEqual(t, one, other, false, true)
}

// Rules R4 and R6

func TestResultsShareNoMemory(t *testing.T) {
	l := fields(`If-None-Match: "a", W/"b"`)
	tags, _, _ := etag.List(l, "If-None-Match")
	again, _, _ := etag.List(l, "If-None-Match")
	one, _ := etag.Of(fields(`ETag: "a"`))
	tags[0], tags[1].Tag, l[0].Value = weak("changed"), "changed", `"c"`
	if !slices.Equal(again, []api.ETag{strong("a"), weak("b")}) || one != strong("a") {
		t.Errorf("the results have become %v and %v", again, one)
	}
	checkList(t, l, strong("c"))
}

func TestRepeatedCalls(t *testing.T) {
	for range 100 {
		checkParse(t, `W/"a"`, weak("a"))
		checkNoParse(t, `"a`)
		checkParse(t, `"b"`, strong("b"))
		checkFormat(t, weak(" "), "")
		checkList(t, fields(`If-None-Match: "a"`), strong("a"))
		checkStar(t, fields("If-None-Match: *"))
		checkNoList(t, fields("If-None-Match: a"))
		checkEqual(t, weak("a"), strong("a"), false, true)
	}
}
