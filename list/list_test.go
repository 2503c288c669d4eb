package list_test

import (
	"regexp"
	"slices"
	"strconv"
	"strings"
	"testing"

	"variantproxy/api"
	"variantproxy/list"
)

func single(b int) string {
	return string([]byte{byte(b)})
}

// numbered returns count different members, of which the first has this number.
func numbered(first, count int) []string {
	var members []string
	for i := range count {
		members = append(members, "m"+strconv.Itoa(first+i))
	}
	return members
}

// splitCase is a value and its members.
type splitCase struct {
	value string
	want  []string
}

func checkSplit(t *testing.T, cases ...splitCase) {
	t.Helper()
	for _, c := range cases {
		if got := list.Split(c.value); !slices.Equal(got, c.want) {
			t.Errorf("Split(%.60q) = %.200q, not %.200q", c.value, got, c.want)
		}
	}
}

// Promise 7.1

func TestSplit(t *testing.T) {
	checkSplit(t,
		splitCase{"a, \"b,c\" ,,d", []string{"a", "\"b,c\"", "d"}},
		splitCase{"a", []string{"a"}},
		splitCase{"a,b", []string{"a", "b"}},
		splitCase{"gzip, identity;q=0.5, *;q=0", []string{"gzip", "identity;q=0.5", "*;q=0"}},
		splitCase{"a,a,A", []string{"a", "a", "A"}}, // members are not compared
		splitCase{"a b,c\td", []string{"a b", "c\td"}},
		splitCase{"a;b,c", []string{"a;b", "c"}},
		splitCase{"'a,b'", []string{"'a", "b'"}},
		splitCase{"(a,b)", []string{"(a", "b)"}},
	)
}

func TestSplitTrimsPieces(t *testing.T) {
	checkSplit(t,
		splitCase{" a", []string{"a"}},
		splitCase{"a ", []string{"a"}},
		splitCase{"\t a \t", []string{"a"}},
		splitCase{" a , b ", []string{"a", "b"}},
		splitCase{"\ta\t,\tb\t", []string{"a", "b"}},
		splitCase{"a \t ,\t \tb c\t ", []string{"a", "b c"}},
		splitCase{" \" a \" , \"\tb\t\" ", []string{"\" a \"", "\"\tb\t\""}}, // the blanks stand between the quotes
		splitCase{"\" a \t", []string{"\" a"}},                               // without an end, they are at the end of the piece
		splitCase{"\ra\n,\vb\f,\u00a0c,\x00", []string{"\ra\n", "\vb\f", "\u00a0c", "\x00"}},
	)
}

func TestSplitLeavesEmptyPiecesOut(t *testing.T) {
	for _, value := range []string{"", " ", "\t", " \t \t", ",", ",,", " , ", "\t,\t", ", ,\t, ,", strings.Repeat(", ", 1000)} {
		checkSplit(t, splitCase{value, nil})
	}
	for _, value := range []string{",a,b", "a,b,", "a,,b", " ,a, ,b, ", ",,,\t,a,,, \t ,,b,,"} {
		checkSplit(t, splitCase{value, []string{"a", "b"}})
	}
	// A quoted string is not empty, even if nothing or a blank is quoted.
	checkSplit(t, splitCase{"\"\",\" \", \"\t\" ,\"", []string{"\"\"", "\" \"", "\"\t\"", "\""}})
}

func TestSplitKeepsQuotedStringsTogether(t *testing.T) {
	checkSplit(t,
		splitCase{`"a,b"`, []string{`"a,b"`}},
		splitCase{`","`, []string{`","`}},
		splitCase{`",",","`, []string{`","`, `","`}},
		splitCase{`"a,b",c`, []string{`"a,b"`, "c"}},
		splitCase{`a,"b,c"`, []string{"a", `"b,c"`}},
		splitCase{`"",a`, []string{`""`, "a"}},
		splitCase{`W/"a,b", "c"`, []string{`W/"a,b"`, `"c"`}},
		// A quoted string need not begin or end at a comma.
		splitCase{`a="b,c";d,e`, []string{`a="b,c";d`, "e"}},
		splitCase{`a"b,c"d"e,f"g,h`, []string{`a"b,c"d"e,f"g`, "h"}},
		splitCase{`"a,b""c,d",e`, []string{`"a,b""c,d"`, "e"}},
	)
}

func TestSplitTakesBackslashesOfQuotedStringsWithTheNextByte(t *testing.T) {
	checkSplit(t,
		splitCase{`"a\",b",c`, []string{`"a\",b"`, "c"}},
		splitCase{`"\"",a`, []string{`"\""`, "a"}},
		splitCase{`"a\\",b`, []string{`"a\\"`, "b"}},
		splitCase{`"a\\\",b",c`, []string{`"a\\\",b"`, "c"}},
		splitCase{`"a\\\\",b`, []string{`"a\\\\"`, "b"}},
		splitCase{`"\,",a`, []string{`"\,"`, "a"}},
		splitCase{`"\,,\",",a`, []string{`"\,,\","`, "a"}},
		splitCase{`"\a"b,c`, []string{`"\a"b`, "c"}},
	)
}

func TestSplitTakesBackslashesOutsideQuotedStringsAsTheyAre(t *testing.T) {
	checkSplit(t,
		splitCase{`a\,b`, []string{`a\`, "b"}},
		splitCase{`\,\`, []string{`\`, `\`}},
		splitCase{`\"a,b",c`, []string{`\"a,b"`, "c"}},
		splitCase{`\\"a,b",c`, []string{`\\"a,b"`, "c"}},
		splitCase{`"a"\,b`, []string{`"a"\`, "b"}},
		splitCase{`"a"\"b,c",d`, []string{`"a"\"b,c"`, "d"}},
	)
}

func TestSplitTakesQuotedStringsWithoutEndToTheEnd(t *testing.T) {
	checkSplit(t,
		splitCase{`"`, []string{`"`}},
		splitCase{`"a,b`, []string{`"a,b`}},
		splitCase{`",`, []string{`",`}},
		splitCase{`",,`, []string{`",,`}},
		splitCase{`a,"b,c,`, []string{"a", `"b,c,`}},
		splitCase{`a"b,c`, []string{`a"b,c`}},
		splitCase{`",","`, []string{`","`, `"`}},
		splitCase{`"a""b,c`, []string{`"a""b,c`}},
		splitCase{`"a,\"`, []string{`"a,\"`}},
		splitCase{`"a,\",b`, []string{`"a,\",b`}},
		splitCase{`"a,\`, []string{`"a,\`}},
		splitCase{`"a,\\`, []string{`"a,\\`}},
		splitCase{`"a,b , `, []string{`"a,b ,`}},
		splitCase{`"a,\ `, []string{`"a,\`}},
	)
}

func TestSplitOfEveryByteAtEachPlace(t *testing.T) {
	for b := range 256 {
		s := single(b)
		if b != ',' && b != '"' && b != ' ' && b != '\t' {
			checkSplit(t,
				splitCase{s, []string{s}},
				splitCase{s + s + "," + s, []string{s + s, s}},
				splitCase{"a" + s + "b,c", []string{"a" + s + "b", "c"}},
				splitCase{"\"a\"" + s + ",b", []string{"\"a\"" + s, "b"}},
				splitCase{"\\" + s + ",b", []string{"\\" + s, "b"}},
			)
		}
		if b != '"' && b != '\\' {
			checkSplit(t, splitCase{"\"a" + s + "b\",c", []string{"\"a" + s + "b\"", "c"}})
		}
		checkSplit(t, splitCase{"\"\\" + s + ",\",c", []string{"\"\\" + s + ",\"", "c"}})
	}
}

func TestSplitReturnsTheFirstMembers(t *testing.T) {
	first := numbered(0, api.MaxMembers)
	full := strings.Join(first, ",")
	checkSplit(t,
		splitCase{strings.Join(first[1:], ","), first[1:]},
		splitCase{full, first},
		splitCase{full + ",", first},
		splitCase{full + ",x", first},
		splitCase{full + "x,y", append(slices.Clone(first[:api.MaxMembers-1]), first[api.MaxMembers-1]+"x")},
		splitCase{full + `,"x,y`, first},
		splitCase{full + `"x,y`, append(slices.Clone(first[:api.MaxMembers-1]), first[api.MaxMembers-1]+`"x,y`)},
		splitCase{strings.Join(numbered(0, 10*api.MaxMembers), " , "), first},
		// Empty pieces are not counted.
		splitCase{strings.Repeat(" ,", 1000) + full + ",x", first},
		splitCase{"a" + strings.Repeat(", ", 1000) + ",b", []string{"a", "b"}},
		splitCase{strings.Join(first, ",,\t, ") + ",x", first},
	)
}

func TestSplitOfLongValues(t *testing.T) {
	long := strings.Repeat("a ", 500000) + "b"
	checkSplit(t,
		splitCase{long, []string{long}},
		splitCase{long + "," + long, []string{long, long}},
		splitCase{strings.Repeat(",", 1000000), nil},
		splitCase{strings.Repeat(",", 1000000) + "a", []string{"a"}},
		splitCase{"\"" + strings.Repeat(",", 1000000), []string{"\"" + strings.Repeat(",", 1000000)}},
		splitCase{"\"" + strings.Repeat("\\\"", 500000) + "\",a", []string{"\"" + strings.Repeat("\\\"", 500000) + "\"", "a"}},
		splitCase{strings.Repeat("\"\"", 500000) + ",a", []string{strings.Repeat("\"\"", 500000), "a"}},
	)
}

// pieceText is a longest piece: bytes other than comma and double quote, and
// quoted strings. It sees each byte as the character with its number.
var pieceText = regexp.MustCompile(`(?s)([^",]|"([^"\\]|\\.)*("|\\?\z))+`)

// expectedMembers reads a value as promise 7.1 says, by an expression.
func expectedMembers(value string) []string {
	characters := make([]rune, len(value))
	for i := range len(value) {
		characters[i] = rune(value[i])
	}
	var members []string
	for _, piece := range pieceText.FindAllString(string(characters), -1) {
		var member []byte
		for _, character := range strings.Trim(piece, " \t") {
			member = append(member, byte(character))
		}
		if len(member) > 0 {
			members = append(members, string(member))
		}
	}
	return members[:min(len(members), api.MaxMembers)]
}

func TestSplitOfSequencesOfBytes(t *testing.T) {
	const alphabet = "a,\"\\ "
	values := []string{""}
	for length := range 8 {
		for _, value := range values {
			checkSplit(t, splitCase{value, expectedMembers(value)})
		}
		if length == 7 {
			break
		}
		var longer []string
		for _, value := range values {
			for i := range len(alphabet) {
				longer = append(longer, value+alphabet[i:i+1])
			}
		}
		values = longer
	}
}

func TestSplitOfValuesWithOneByteChanged(t *testing.T) {
	full := strings.Join(numbered(0, api.MaxMembers), ",")
	for _, value := range []string{
		"a, \"b,c\" ,,d",
		`text/html;level=1;q="0.5", */* ; x="\",\\" ,W/"e"`,
		`a\,"b\\,c\",",\"d,e"f, "g`,
		" ,\t,\xc3\xa4 \xff,\" \\\xff,\",",
		strings.Join(numbered(60, 4), ", ") + `,"x,y"`,
	} {
		for i := range len(value) + 1 {
			for b := range 256 {
				inserted := value[:i] + single(b) + value[i:]
				checkSplit(t, splitCase{inserted, expectedMembers(inserted)})
				if i < len(value) {
					replaced := value[:i] + single(b) + value[i+1:]
					checkSplit(t, splitCase{replaced, expectedMembers(replaced)})
				}
			}
			prefix, suffix := value[:i], value[i:]
			checkSplit(t,
				splitCase{prefix, expectedMembers(prefix)},
				splitCase{suffix, expectedMembers(suffix)},
				splitCase{full + prefix, expectedMembers(full + prefix)},
				splitCase{suffix + full, expectedMembers(suffix + full)},
			)
		}
	}
}

func TestSplitKeepsNoMemory(t *testing.T) {
	first := list.Split("a,b")
	for i := range first {
		first[i] = "x"
	}
	_ = append(first, "y")
	checkSplit(t, splitCase{"a,b", []string{"a", "b"}})
}

// Promise 7.2

func checkAll(t *testing.T, l []api.Field, name string, want []string) {
	t.Helper()
	given := slices.Clone(l)
	if got := list.All(l, name); !slices.Equal(got, want) {
		t.Errorf("All(%.60q, %q) = %.200q, not %.200q", l, name, got, want)
	}
	if !slices.Equal(l, given) {
		t.Errorf("All(.., %q) has changed its argument to %.60q", name, l)
	}
}

func TestAll(t *testing.T) {
	fields := []api.Field{
		{Name: "Vary", Value: "Accept, accept-LANGUAGE"},
		{Name: "ETag", Value: "W/\"a,b\""},
		{Name: "vary", Value: ""},
		{Name: "VARY", Value: " c ,, d "},
		{Name: "Vary-", Value: "x"},
		{Name: "Var", Value: "y"},
		{Name: "vARy", Value: "Accept"},
		{Name: "", Value: "e,f"},
		{Name: "not a token", Value: "\x00,\n"},
	}
	for _, name := range []string{"Vary", "vary", "VARY", "vArY"} {
		checkAll(t, fields, name, []string{"Accept", "accept-LANGUAGE", "c", "d", "Accept"})
	}
	checkAll(t, fields, "etag", []string{"W/\"a,b\""})
	checkAll(t, fields, "var", []string{"y"})
	checkAll(t, fields, "", []string{"e", "f"})
	checkAll(t, fields, "Not A Token", []string{"\x00", "\n"})
	checkAll(t, []api.Field{{Name: "Link", Value: "a"}, {Name: "Lin\u212a", Value: "b"}}, "LINK", []string{"a"})
	for _, name := range []string{"Vary ", " Vary", "V", "Varyy", "tag", "x"} {
		checkAll(t, fields, name, nil)
	}
	checkAll(t, nil, "Vary", nil)
	checkAll(t, []api.Field{}, "", nil)
	checkAll(t, []api.Field{{Name: "Vary", Value: " , ,"}, {Name: "Vary"}}, "Vary", nil)
}

func TestAllCutsEachFieldOnItsOwn(t *testing.T) {
	checkAll(t, []api.Field{{Name: "A", Value: `a,"b,c`}, {Name: "A", Value: `d",e`}}, "A", []string{"a", `"b,c`, "d\",e"})
	checkAll(t, []api.Field{{Name: "A", Value: `"a\`}, {Name: "A", Value: `",b"`}, {Name: "A", Value: "c,d"}}, "A", []string{`"a\`, `",b"`, "c", "d"})
	checkAll(t, []api.Field{{Name: "A", Value: "a"}, {Name: "A", Value: "b"}}, "A", []string{"a", "b"})
}

func TestAllReturnsTheFirstMembers(t *testing.T) {
	half := api.MaxMembers / 2
	field := func(first, count int) api.Field {
		return api.Field{Name: "A", Value: strings.Join(numbered(first, count), ", ")}
	}
	other := api.Field{Name: "B", Value: strings.Join(numbered(0, 2*api.MaxMembers), ",")}
	full := numbered(0, api.MaxMembers)
	checkAll(t, []api.Field{field(0, half), field(half, half-1)}, "A", full[:api.MaxMembers-1])
	checkAll(t, []api.Field{field(0, half), field(half, half)}, "A", full)
	checkAll(t, []api.Field{field(0, half), field(half, half+1)}, "A", full)
	checkAll(t, []api.Field{field(0, half+1), field(half+1, half), field(0, 3)}, "A", full)
	checkAll(t, []api.Field{field(0, api.MaxMembers+10), field(0, 3)}, "A", full)
	checkAll(t, []api.Field{field(0, api.MaxMembers), {Name: "A", Value: "x"}}, "a", full)
	checkAll(t, []api.Field{other, field(0, 3), other, field(3, 2), other}, "A", numbered(0, 5))
	// Neither empty pieces nor fields with other names are counted.
	var many []api.Field
	for i := range 2 * api.MaxMembers {
		many = append(many, api.Field{Name: "A", Value: ", ,"}, other, field(i, 1), api.Field{Name: "a"})
	}
	checkAll(t, many, "A", full)
	checkAll(t, many, "b", full)
}

// All of a single field is Split of its value, and Split takes each member that
// All returns as a whole.
func TestAllOfOneFieldIsSplit(t *testing.T) {
	for _, value := range []string{"", "a, \"b,c\" ,,d", `"a\",b",c`, `a,"b,c`, strings.Repeat("a,", 100), " , "} {
		members := list.Split(value)
		checkAll(t, []api.Field{{Name: "B", Value: "x"}, {Name: "A", Value: value}}, "A", members)
		for _, member := range members {
			checkSplit(t, splitCase{member, []string{member}})
		}
	}
}

func TestAllKeepsNoMemory(t *testing.T) {
	fields := []api.Field{{Name: "A", Value: "a"}, {Name: "A", Value: "b,c"}}
	first := list.All(fields, "A")
	for i := range first {
		first[i] = "x"
	}
	_ = append(first, "y")
	checkAll(t, fields, "A", []string{"a", "b", "c"})
}

func TestJoin(t *testing.T) {
	for _, c := range []struct {
		members []string
		want    string
	}{
		{nil, ""},
		{[]string{}, ""},
		{[]string{""}, ""},
		{[]string{"a"}, "a"},
		{[]string{"a", "b"}, "a, b"},
		{[]string{"a", "\"b,c\"", "d"}, "a, \"b,c\", d"},
		{[]string{"", ""}, ", "},
		{[]string{"", "a", ""}, ", a, "},
		{[]string{" a ", "b,", ",c", "\t"}, " a , b,, ,c, \t"}, // members are neither trimmed nor judged
		{[]string{"a", "a", "A"}, "a, a, A"},
		{[]string{"\"a", "\xff\x00", "\r\n"}, "\"a, \xff\x00, \r\n"},
	} {
		given := slices.Clone(c.members)
		if got := list.Join(c.members); got != c.want {
			t.Errorf("Join(%q) = %q", c.members, got)
		}
		if !slices.Equal(c.members, given) {
			t.Errorf("Join has changed its argument to %q", c.members)
		}
	}
}

func TestJoinHasNoLimit(t *testing.T) {
	members := numbered(0, 10*api.MaxMembers)
	want := "m0"
	for _, member := range members[1:] {
		want += ", " + member
	}
	if got := list.Join(members); got != want {
		t.Errorf("Join of %d members = %.200q", len(members), got)
	}
}

func TestSplitReadsWhatJoinWrites(t *testing.T) {
	for _, value := range []string{"", "a", "a, \"b,c\" ,,d", `"a\",b",c\,"d\\"`, `a,"b,c`, `"a\`, strings.Repeat(" a,", 100)} {
		members := list.Split(value)
		checkSplit(t, splitCase{list.Join(members), members})
	}
}
