package fieldline_test

import (
	"regexp"
	"slices"
	"strings"
	"testing"

	"variantproxy/api"
	"variantproxy/fieldline"
)

const tokenBytes = "abcdefghijklmnopqrstuvwxyzABCDEFGHIJKLMNOPQRSTUVWXYZ0123456789!#$%&'*+-.^_`|~"

func single(b int) string {
	return string([]byte{byte(b)})
}

// The expressions see each byte of a string as the character with its number.
var (
	fieldLine  = regexp.MustCompile("\\A([A-Za-z0-9!#$%&'*+\\-.^_`|~]+):[\\x{09} ]*([\\x{09}\\x{20}-\\x{7e}\\x{80}-\\x{ff}]*?)[\\x{09} ]*\\z")
	fieldName  = regexp.MustCompile("\\A[A-Za-z0-9!#$%&'*+\\-.^_`|~]+\\z")
	fieldValue = regexp.MustCompile("\\A([\\x{21}-\\x{7e}\\x{80}-\\x{ff}]([\\x{09}\\x{20}-\\x{7e}\\x{80}-\\x{ff}]*[\\x{21}-\\x{7e}\\x{80}-\\x{ff}])?)?\\z")
)

func bytesAsCharacters(s string) string {
	characters := make([]rune, len(s))
	for i := range len(s) {
		characters[i] = rune(s[i])
	}
	return string(characters)
}

func charactersAsBytes(s string) string {
	var all []byte
	for _, character := range s {
		all = append(all, byte(character))
	}
	return string(all)
}

// expectedField reads a line as promise 3.2 says, by an expression.
func expectedField(line string) (api.Field, api.Errno) {
	parts := fieldLine.FindStringSubmatch(bytesAsCharacters(line))
	if parts == nil {
		if len(line) > api.MaxLine {
			return api.Field{}, api.ErrLong
		}
		return api.Field{}, api.ErrSyntax
	}
	field := api.Field{Name: charactersAsBytes(parts[1]), Value: charactersAsBytes(parts[2])}
	if len(line) > api.MaxLine || len(expectedLine(field)) > api.MaxLine {
		return api.Field{}, api.ErrLong
	}
	return field, api.OK
}

// expectedLine writes a field that promise 3.1 does not call too long.
func expectedLine(f api.Field) string {
	return strings.TrimSuffix(f.Name+": "+f.Value, " ")
}

// expectedValid says by expressions what promise 3.1 calls valid.
func expectedValid(f api.Field) bool {
	return fieldName.MatchString(bytesAsCharacters(f.Name)) && fieldValue.MatchString(bytesAsCharacters(f.Value)) && len(expectedLine(f)) <= api.MaxLine
}

// neighbours returns the strings that differ from s in one byte: replaced by
// each other byte, left out, or inserted.
func neighbours(s string) []string {
	var all []string
	for i := range len(s) {
		all = append(all, s[:i]+s[i+1:])
		for b := range 256 {
			all = append(all, s[:i]+single(b)+s[i+1:])
		}
	}
	for i := range len(s) + 1 {
		for b := range 256 {
			all = append(all, s[:i]+single(b)+s[i:])
		}
	}
	return all
}

// pieceSequences returns all sequences of at most count of the pieces.
func pieceSequences(pieces []string, count int) []string {
	all := []string{""}
	longest := all
	for range count {
		var longer []string
		for _, sequence := range longest {
			for _, piece := range pieces {
				longer = append(longer, sequence+piece)
			}
		}
		all = append(all, longer...)
		longest = longer
	}
	return all
}

// Promise 3.1

func TestValidAndFormat(t *testing.T) {
	for _, c := range []struct{ name, value, line string }{
		{"Accept", "text/html", "Accept: text/html"},
		{"a", "b", "a: b"},
		{"A", "", "A:"},
		{"X-y!#$%&'*+.^_`|~9", "v", "X-y!#$%&'*+.^_`|~9: v"},
		{"A", "b \t c", "A: b \t c"},
		{"A", ":", "A: :"},
		{"A", "B: c", "A: B: c"},
		{"A", "\x80\xff\xc3\xa4~", "A: \x80\xff\xc3\xa4~"},
		{"A", "\xa0", "A: \xa0"}, // no space, but a byte above 127
		{"A", "\"", "A: \""},
		{"", "", ""},
		{"", "b", ""},
		{"A ", "b", ""},
		{" A", "b", ""},
		{"A b", "c", ""},
		{"A:", "b", ""},
		{"A:b", "", ""},
		{"A\xe4", "b", ""},
		{"A\n", "b", ""},
		{"\"A\"", "b", ""},
		{"A", " ", ""},
		{"A", "\t", ""},
		{"A", " b", ""},
		{"A", "b ", ""},
		{"A", "\tb", ""},
		{"A", "b\t", ""},
		{"A", "b\r\nC: d", ""},
		{"A", "b\n", ""},
		{"A", "\x00", ""},
		{"A", "b\x7fc", ""},
		{"A", "\x1f", ""},
	} {
		f := api.Field{Name: c.name, Value: c.value}
		if got := fieldline.Valid(f); got != (c.line != "") {
			t.Errorf("Valid(%q) = %t", f, got)
		}
		if got := fieldline.Format(f); got != c.line {
			t.Errorf("Format(%q) = %q", f, got)
		}
	}
}

func TestValidAndFormatOfEveryByte(t *testing.T) {
	for b := range 256 {
		s := single(b)
		isName := strings.Contains(tokenBytes, s)
		// Within a value, spaces and tabs are permitted; at its ends, they are not.
		isInside := b == 9 || b >= 32 && b <= 126 || b >= 128
		isEnd := isInside && b != 9 && b != 32
		for _, c := range []struct {
			f     api.Field
			valid bool
		}{
			{api.Field{Name: s, Value: "v"}, isName},
			{api.Field{Name: "N" + s, Value: "v"}, isName},
			{api.Field{Name: s + "N", Value: ""}, isName},
			{api.Field{Name: "N", Value: s}, isEnd},
			{api.Field{Name: "N", Value: s + "v"}, isEnd},
			{api.Field{Name: "N", Value: "v" + s}, isEnd},
			{api.Field{Name: "N", Value: "v" + s + "v"}, isInside},
		} {
			line := ""
			if c.valid {
				line = expectedLine(c.f)
			}
			if got := fieldline.Valid(c.f); got != c.valid {
				t.Errorf("Valid(%q) = %t", c.f, got)
			}
			if got := fieldline.Format(c.f); got != line {
				t.Errorf("Format(%q) = %q", c.f, got)
			}
		}
	}
}

func TestValidAndFormatOfLongFields(t *testing.T) {
	// Every length of the name near the limit, so that the space that an empty
	// value does not have is counted too.
	for nameBytes := 1; nameBytes <= api.MaxLine+2; nameBytes++ {
		if nameBytes > 5 && nameBytes < api.MaxLine-5 {
			continue
		}
		for valueBytes := max(0, api.MaxLine-nameBytes-5); valueBytes <= max(0, api.MaxLine-nameBytes)+2; valueBytes++ {
			f := api.Field{Name: strings.Repeat("n", nameBytes), Value: strings.Repeat("v", valueBytes)}
			line := f.Name + ":"
			if valueBytes > 0 {
				line += " " + f.Value
			}
			valid := len(line) <= api.MaxLine
			if !valid {
				line = ""
			}
			if got := fieldline.Valid(f); got != valid {
				t.Errorf("Valid of %d and %d bytes: %t", nameBytes, valueBytes, got)
			}
			if got := fieldline.Format(f); got != line {
				t.Errorf("Format of %d and %d bytes: %.60q", nameBytes, valueBytes, got)
			}
		}
	}
	huge := strings.Repeat("x", 1<<20)
	for _, f := range []api.Field{{Name: huge}, {Name: "A", Value: huge}, {Name: huge, Value: huge}} {
		if fieldline.Valid(f) || fieldline.Format(f) != "" {
			t.Errorf("a field of a million bytes is valid")
		}
	}
}

func TestValidAndFormatFollowTheExpressions(t *testing.T) {
	texts := append(pieceSequences([]string{"a", " ", "\t", ":", "\n", "\xff"}, 4), "", "A-b", "~", "\x7f")
	for _, name := range []string{"", "A", "a-B", "A ", " ", "A:", "\xff", "\n"} {
		for _, value := range texts {
			for _, f := range []api.Field{{Name: name, Value: value}, {Name: value, Value: name}} {
				valid, line := expectedValid(f), ""
				if valid {
					line = expectedLine(f)
				}
				if got := fieldline.Valid(f); got != valid {
					t.Fatalf("Valid(%q) = %t", f, got)
				}
				if got := fieldline.Format(f); got != line {
					t.Fatalf("Format(%q) = %q", f, got)
				}
			}
		}
	}
}

// Promise 3.2

func TestParseReturnsTheField(t *testing.T) {
	for line, want := range map[string]api.Field{
		"A:  b ":                     {Name: "A", Value: "b"},
		"A:b":                        {Name: "A", Value: "b"},
		"A: b":                       {Name: "A", Value: "b"},
		"A:\tb\t \t":                 {Name: "A", Value: "b"},
		"A:":                         {Name: "A", Value: ""},
		"A: ":                        {Name: "A", Value: ""},
		"A: \t \t":                   {Name: "A", Value: ""},
		"A::":                        {Name: "A", Value: ":"},
		"A: :b: c":                   {Name: "A", Value: ":b: c"},
		"A: b \t c ":                 {Name: "A", Value: "b \t c"},
		"ACCEPT-language:en":         {Name: "ACCEPT-language", Value: "en"},
		"X-y!#$%&'*+.^_`|~9:v":       {Name: "X-y!#$%&'*+.^_`|~9", Value: "v"},
		"A: \xc3\xa4\xff\x80":        {Name: "A", Value: "\xc3\xa4\xff\x80"},
		"A:\xa0\xc2\xa0":             {Name: "A", Value: "\xa0\xc2\xa0"},
		"Host: h:80":                 {Name: "Host", Value: "h:80"},
		"Vary: \"a\\\" , b\"; ~{}[]": {Name: "Vary", Value: "\"a\\\" , b\"; ~{}[]"},
	} {
		if got, errno := fieldline.Parse(line); got != want || errno != api.OK {
			t.Errorf("Parse(%q) = %q, %d", line, got, errno)
		}
	}
}

func TestParseRefusesOtherLines(t *testing.T) {
	for _, line := range []string{
		"", " ", "A", "A b", ":", ": b", " :b", "\t:b", // no name or no colon
		"Accept :x", "Accept\t:x", " Accept:x", "\tAccept:x", "Acc ept:x", "A;b:c", "(A):b", "\"A\":b", "A,B:c", "A=b", "A/b:c", // no token
		"\xc3\xa4:b", "A\xff:b", "A\x00:b", "A\r\n:b",
		"A: b\r\n", "A: b\r", "A: b\n", "A: b\r\n c", "A: \x00", "A: b\x7f", "A:\x1f", "A: b\x0bc", "A:\x0c", "A: \n", // no text
	} {
		if got, errno := fieldline.Parse(line); got != (api.Field{}) || errno != api.ErrSyntax {
			t.Errorf("Parse(%q) = %q, %d", line, got, errno)
		}
	}
}

func TestParseOfEveryByte(t *testing.T) {
	for b := range 256 {
		s := single(b)
		want, wantErrno := api.Field{}, api.ErrSyntax
		if strings.Contains(tokenBytes, s) {
			want, wantErrno = api.Field{Name: s, Value: "v"}, api.OK
		}
		if got, errno := fieldline.Parse(s + ":v"); got != want || errno != wantErrno {
			t.Errorf("name %q: %q, %d", s, got, errno)
		}
		want, wantErrno = api.Field{}, api.ErrSyntax
		if b == 9 || b >= 32 && b <= 126 || b >= 128 {
			want, wantErrno = api.Field{Name: "N", Value: strings.Trim(s, " \t")}, api.OK
		}
		if got, errno := fieldline.Parse("N:" + s); got != want || errno != wantErrno {
			t.Errorf("value %q: %q, %d", s, got, errno)
		}
	}
}

func TestParseOfLongLines(t *testing.T) {
	value := strings.Repeat("v", api.MaxLine-len("A: "))
	for _, c := range []struct {
		line  string
		value string
		errno api.Errno
	}{
		{"A: " + value, value, api.OK},
		{"A:\t" + value, value, api.OK},
		{"A:" + value, value, api.OK},
		{"A:" + value[1:] + " ", value[1:], api.OK},
		{"A: " + value[1:] + " ", value[1:], api.OK},
		{"A:" + value + " ", value, api.OK},
		{"A: " + value + "v", "", api.ErrLong},
		{"A: " + value + " ", "", api.ErrLong},
		{"A:  " + value, "", api.ErrLong},
		{"A:" + value + "  ", "", api.ErrLong},
		{"A:v" + value, "", api.ErrLong}, // MaxLine bytes, but one more with a space
		{"A:" + strings.Repeat(" ", api.MaxLine-2), "", api.OK},
		{"A:" + strings.Repeat(" ", api.MaxLine-1), "", api.ErrLong},
		{"A:" + strings.Repeat(" ", api.MaxLine-3) + "v", "v", api.OK},
		{"A" + strings.Repeat("\t", api.MaxLine) + ":", "", api.ErrLong},
		{"A:\x7f" + value, "", api.ErrSyntax}, // MaxLine bytes, but the value is no text
		{"A:" + value + "\x00", "", api.ErrSyntax},
		{"(:v" + value, "", api.ErrSyntax}, // MaxLine bytes, but the name is no token
		{":vv" + value, "", api.ErrSyntax},
		{" :v" + value, "", api.ErrSyntax},
		{"Avv" + value, "", api.ErrSyntax},
		{"Avvv" + value, "", api.ErrLong}, // and without a colon
		{"(:vv" + value, "", api.ErrLong}, // and malformed
		{"A:\n\n" + value, "", api.ErrLong},
		{strings.Repeat("\x00", 1<<20), "", api.ErrLong},
	} {
		want := api.Field{Name: "A", Value: c.value}
		if c.errno != api.OK {
			want = api.Field{}
		}
		if got, errno := fieldline.Parse(c.line); got != want || errno != c.errno {
			t.Errorf("Parse of %d bytes, %.10q: %.20q, %d", len(c.line), c.line, got, errno)
		}
	}
}

func TestParseOfLongNames(t *testing.T) {
	name := strings.Repeat("n", api.MaxLine-1)
	for line, want := range map[string]api.Errno{
		name + ":":         api.OK,
		name + "n:":        api.ErrLong,
		name[1:] + ": ":    api.OK,
		name[1:] + ":v":    api.ErrLong,
		name[2:] + ":v":    api.OK,
		name[2:] + ":v ":   api.OK,
		name[2:] + ": v":   api.OK,
		name[2:] + ":vv":   api.ErrLong,
		name[2:] + ": v ":  api.ErrLong,
		name[1:] + ":\x7f": api.ErrSyntax,
		name[1:] + "::":    api.ErrLong, // the value is the second colon
		name + "n":         api.ErrSyntax,
		name + "nn":        api.ErrLong,
	} {
		got, errno := fieldline.Parse(line)
		if errno != want {
			t.Errorf("Parse of a name of about %d bytes, ending with %q: %d", len(line), line[len(line)-4:], errno)
		}
		if errno == api.OK && !fieldline.Valid(got) || errno != api.OK && got != (api.Field{}) {
			t.Errorf("Parse of a line ending with %q: %d and %.20q", line[len(line)-4:], errno, got)
		}
	}
}

func TestParseFollowsTheExpression(t *testing.T) {
	lines := append(neighbours("A-b: c d "), neighbours("Vary:")...)
	lines = append(lines, pieceSequences([]string{"A", ":", " ", "\t", "\xff", "\n", ","}, 6)...)
	for _, line := range lines {
		want, wantErrno := expectedField(line)
		if got, errno := fieldline.Parse(line); got != want || errno != wantErrno {
			t.Fatalf("Parse(%q) = %q, %d, want %q, %d", line, got, errno, want, wantErrno)
		}
	}
}

func TestParseOfLongNeighboursFollowsTheExpression(t *testing.T) {
	middle := strings.Repeat("m", api.MaxLine-9)
	for _, start := range pieceSequences([]string{"A", ":", " ", "\n"}, 5) {
		for _, end := range []string{"", "x", " ", "xx", " x", "x ", "  ", "xxxx", "xxxx  ", "   x", "\x7f\x7f\x7f\x7f", "xxxxxxx", "      x"} {
			line := start + middle + end
			want, wantErrno := expectedField(line)
			if got, errno := fieldline.Parse(line); got != want || errno != wantErrno {
				t.Fatalf("Parse(%q, .., %q) = %.20q, %d, want error %d", start, end, got, errno, wantErrno)
			}
		}
	}
}

// Promise 3.3

func field(name, value string) api.Field {
	return api.Field{Name: name, Value: value}
}

func TestListFunctions(t *testing.T) {
	list := []api.Field{field("A", "1"), field("b", "2"), field("a", "3"), field("B", ""), field("A", "1"), field("C-d", "4")}
	for _, c := range []struct {
		name    string
		values  []string
		removed []api.Field
		set     []api.Field
	}{
		{"A", []string{"1", "3", "1"}, []api.Field{field("b", "2"), field("B", ""), field("C-d", "4")},
			[]api.Field{field("A", "new"), field("b", "2"), field("B", ""), field("C-d", "4")}},
		{"a", []string{"1", "3", "1"}, []api.Field{field("b", "2"), field("B", ""), field("C-d", "4")},
			[]api.Field{field("A", "new"), field("b", "2"), field("B", ""), field("C-d", "4")}},
		{"B", []string{"2", ""}, []api.Field{field("A", "1"), field("a", "3"), field("A", "1"), field("C-d", "4")},
			[]api.Field{field("A", "1"), field("b", "new"), field("a", "3"), field("A", "1"), field("C-d", "4")}},
		{"c-D", []string{"4"}, list[:5],
			[]api.Field{field("A", "1"), field("b", "2"), field("a", "3"), field("B", ""), field("A", "1"), field("C-d", "new")}},
		{"c", nil, list, append(slices.Clone(list), field("c", "new"))},
		{"C-", nil, list, append(slices.Clone(list), field("C-", "new"))},
		{"C-dd", nil, list, append(slices.Clone(list), field("C-dd", "new"))},
		{"", nil, list, append(slices.Clone(list), field("", "new"))},
		{"A ", nil, list, append(slices.Clone(list), field("A ", "new"))},
	} {
		checkList(t, list, c.name, "new", c.values, c.removed, c.set)
	}
}

func TestListFunctionsOfEmptyLists(t *testing.T) {
	for _, list := range [][]api.Field{nil, {}} {
		for _, name := range []string{"A", "", "\n"} {
			checkList(t, list, name, "v", nil, nil, []api.Field{field(name, "v")})
			checkList(t, list, name, "", nil, nil, []api.Field{field(name, "")})
		}
	}
}

func TestListFunctionsDoNotAskForValidFields(t *testing.T) {
	list := []api.Field{field("", "\n"), field("a B", " x "), field("A b", "\x00"), field(":", ""), field("", "y")}
	checkList(t, list, "", "\r\n", []string{"\n", "y"}, list[1:4], []api.Field{field("", "\r\n"), list[1], list[2], list[3]})
	checkList(t, list, "A B", " ", []string{" x ", "\x00"}, []api.Field{list[0], list[3], list[4]}, []api.Field{list[0], field("a B", " "), list[3], list[4]})
	checkList(t, list, ":", "\x7f", []string{""}, []api.Field{list[0], list[1], list[2], list[4]}, []api.Field{list[0], list[1], list[2], field(":", "\x7f"), list[4]})
	long := strings.Repeat("l", 2*api.MaxLine)
	checkList(t, list, long, long, nil, list, append(slices.Clone(list), field(long, long)))
}

func TestListFunctionsFoldOnlyASCIILetters(t *testing.T) {
	list := []api.Field{field("\xe4", "1"), field("\xc4", "2"), field("\xc3\xa4", "3"), field("[", "4"), field("{", "5"), field("K", "6"), field("\u212a", "7"), field("@", "8"), field("`", "9")}
	for i, f := range list {
		values := []string{f.Value}
		removed := append(slices.Clone(list[:i]), list[i+1:]...)
		set := slices.Clone(list)
		set[i].Value = "new"
		checkList(t, list, f.Name, "new", values, removed, set)
	}
	checkList(t, list, "k", "", []string{"6"}, append(slices.Clone(list[:5]), list[6:]...), append(append(slices.Clone(list[:5]), field("K", "")), list[6:]...))
}

// expectedLists computes what promise 3.3 says, in the simplest way.
func expectedLists(list []api.Field, name, value string) (values []string, removed, set []api.Field) {
	for _, f := range list {
		if strings.EqualFold(f.Name, name) {
			values = append(values, f.Value)
			if len(values) == 1 {
				set = append(set, field(f.Name, value))
			}
		} else {
			removed = append(removed, f)
			set = append(set, f)
		}
	}
	if len(values) == 0 {
		set = append(set, field(name, value))
	}
	return values, removed, set
}

func TestListFunctionsOfAllShortLists(t *testing.T) {
	choices := []api.Field{field("A", "1"), field("a", "2"), field("B", "1"), field("", ""), field("AB", "3")}
	lists := [][]api.Field{nil}
	for start := 0; len(lists) < 700; {
		end := len(lists)
		for ; start < end; start++ {
			for _, choice := range choices {
				lists = append(lists, append(slices.Clone(lists[start]), choice))
			}
		}
	}
	for _, list := range lists {
		for _, name := range []string{"a", "A", "b", "ab", "Ab", "", "c"} {
			values, removed, set := expectedLists(list, name, "v")
			checkList(t, list, name, "v", values, removed, set)
		}
	}
}

// checkList compares the results of all list functions with those expected.
func checkList(t *testing.T, list []api.Field, name, value string, values []string, removed, set []api.Field) {
	t.Helper()
	before := slices.Clone(list)
	if got := fieldline.Get(list, name); !slices.Equal(got, values) {
		t.Errorf("Get(%.200q, %.60q) = %.200q", list, name, got)
	}
	if got := fieldline.Has(list, name); got != (len(values) > 0) {
		t.Errorf("Has(%.200q, %.60q) = %t", list, name, got)
	}
	first, ok := fieldline.First(list, name)
	if len(values) == 0 && (ok || first != "") || len(values) > 0 && (!ok || first != values[0]) {
		t.Errorf("First(%.200q, %.60q) = %.200q, %t", list, name, first, ok)
	}
	if got := fieldline.Remove(list, name); !slices.Equal(got, removed) {
		t.Errorf("Remove(%.200q, %.60q) = %.200q", list, name, got)
	}
	if got := fieldline.Set(list, name, value); !slices.Equal(got, set) {
		t.Errorf("Set(%.200q, %.60q, %.60q) = %.200q", list, name, value, got)
	}
	if !slices.Equal(list, before) {
		t.Errorf("a function changed the list %.200q to %.200q", before, list)
	}
}

func TestListFunctionsLeaveTheirArgumentsAlone(t *testing.T) {
	for _, name := range []string{"A", "B", "none"} {
		// The list has room behind its end, in which nothing may be written.
		backing := []api.Field{field("A", "1"), field("b", "2"), field("a", "3"), field("x", "4"), field("y", "5")}
		before := slices.Clone(backing)
		list := backing[:3]
		for _, result := range [][]api.Field{fieldline.Remove(list, name), fieldline.Set(list, name, "v")} {
			result = append(result, field("z", "6"))
			for i := range result {
				result[i] = field("changed", "changed")
			}
			if !slices.Equal(backing, before) {
				t.Fatalf("name %q: the argument became %q", name, backing)
			}
		}
	}
}

func TestResultsOfListFunctionsAreNotChangedLater(t *testing.T) {
	for _, name := range []string{"A", "B", "none"} {
		list := []api.Field{field("A", "1"), field("b", "2"), field("a", "3")}
		values, removed, set := fieldline.Get(list, name), fieldline.Remove(list, name), fieldline.Set(list, name, "v")
		wantValues, wantRemoved, wantSet := expectedLists(list, name, "v")
		for i := range list {
			list[i] = field("changed", "changed")
		}
		fieldline.Set(list, "changed", "again")
		if !slices.Equal(values, wantValues) || !slices.Equal(removed, wantRemoved) || !slices.Equal(set, wantSet) {
			t.Errorf("name %q: the results became %q, %q and %q", name, values, removed, set)
		}
	}
}

// Consequences

func TestParseReadsWhatFormatWrites(t *testing.T) {
	values := append(pieceSequences([]string{"a", " ", "\t", ":", "\xff", "\x7f"}, 5), neighbours("b c")...)
	values = append(values, strings.Repeat("v", api.MaxLine-len("A: ")), strings.Repeat("v", api.MaxLine-len("a-B: ")))
	valid := 0
	for _, name := range []string{"A", "a-B", "~", "!1"} {
		for _, value := range values {
			f := field(name, value)
			if !fieldline.Valid(f) {
				continue
			}
			valid++
			if got, errno := fieldline.Parse(fieldline.Format(f)); got != f || errno != api.OK {
				t.Fatalf("Parse(Format(%q)) = %q, %d", f, got, errno)
			}
		}
	}
	if valid < 1000 {
		t.Errorf("only %d of the fields are valid", valid)
	}
}

func TestParseReturnsValidFields(t *testing.T) {
	lines := append(neighbours("A-b: c d "), pieceSequences([]string{"A", ":", " ", "\t", "\xff", "\n"}, 6)...)
	for _, line := range lines {
		if f, errno := fieldline.Parse(line); errno == api.OK && !fieldline.Valid(f) {
			t.Fatalf("Parse(%q) = %q, which is not valid", line, f)
		}
	}
}
