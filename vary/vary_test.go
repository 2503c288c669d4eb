package vary_test

import (
	"fmt"
	"slices"
	"strconv"
	"strings"
	"testing"

	"variantproxy/api"
	"variantproxy/vary"
)

// fields returns the fields that the lines hold, of which the value is kept as it
// stands behind the colon and a space.
func fields(lines ...string) []api.Field {
	var l []api.Field
	for _, line := range lines {
		name, value, _ := strings.Cut(line, ": ")
		l = append(l, api.Field{Name: name, Value: value})
	}
	return l
}

func texts(values ...string) []string {
	return values
}

// numbered returns count different members, which are in ascending order.
func numbered(count int) []string {
	var members []string
	for i := range count {
		members = append(members, "m-"+strconv.Itoa(1000+i))
	}
	return members
}

// shortened returns the beginning of the text of a list.
func shortened[T any](l []T) string {
	return fmt.Sprintf("%.300q", fmt.Sprint(l[:min(len(l), 20)]))
}

// fourNames are the names of the fields that state preferences.
func fourNames() []string {
	return texts("Accept", "Accept-Language", "Accept-Charset", "Accept-Encoding")
}

// checkNames expects these names and true.
func checkNames(t *testing.T, l []api.Field, want ...string) {
	t.Helper()
	before := slices.Clone(l)
	if got, ok := vary.Names(l); !ok || !slices.Equal(got, want) {
		t.Errorf("Names(%s) = %s, %v, not %s", shortened(l), shortened(got), ok, shortened(want))
	}
	if !slices.Equal(l, before) {
		t.Errorf("Names has changed its argument to %s", shortened(l))
	}
}

// checkNoNames expects none and false.
func checkNoNames(t *testing.T, l []api.Field) {
	t.Helper()
	before := slices.Clone(l)
	if got, ok := vary.Names(l); ok || len(got) > 0 {
		t.Errorf("Names(%s) = %s, %v", shortened(l), shortened(got), ok)
	}
	if !slices.Equal(l, before) {
		t.Errorf("Names has changed its argument to %s", shortened(l))
	}
}

// checkValue expects this text, also as the only one of a snapshot, which matches the
// fields and no others.
func checkValue(t *testing.T, name string, l []api.Field, want string) {
	t.Helper()
	before := slices.Clone(l)
	if got := vary.Value(name, l); got != want {
		t.Errorf("Value(%.60q, %s) = %.300q, not %.300q", name, shortened(l), got, want)
	}
	if got := vary.Snapshot([]string{name}, l); !slices.Equal(got, []string{want}) {
		t.Errorf("Snapshot(%.60q, %s) = %s, not %.300q", name, shortened(l), shortened(got), want)
	}
	checkMatch(t, true, []string{name}, []string{want}, l)
	checkMatch(t, false, []string{name}, []string{want + " "}, l)
	if !slices.Equal(l, before) {
		t.Errorf("Value or Snapshot has changed the fields to %s", shortened(l))
	}
}

// checkSnapshot expects these texts, which match the fields.
func checkSnapshot(t *testing.T, names []string, l []api.Field, want ...string) {
	t.Helper()
	namesBefore, fieldsBefore := slices.Clone(names), slices.Clone(l)
	if got := vary.Snapshot(names, l); !slices.Equal(got, want) {
		t.Errorf("Snapshot(%s, %s) = %s, not %s", shortened(names), shortened(l), shortened(got), shortened(want))
	}
	if !slices.Equal(names, namesBefore) || !slices.Equal(l, fieldsBefore) {
		t.Errorf("Snapshot has changed its arguments to %s and %s", shortened(names), shortened(l))
	}
	checkMatch(t, true, names, want, l)
}

func checkMatch(t *testing.T, want bool, names, snapshot []string, l []api.Field) {
	t.Helper()
	namesBefore, snapshotBefore, fieldsBefore := slices.Clone(names), slices.Clone(snapshot), slices.Clone(l)
	if got := vary.Match(names, snapshot, l); got != want {
		t.Errorf("Match(%s, %s, %s) = %v", shortened(names), shortened(snapshot), shortened(l), got)
	}
	if !slices.Equal(names, namesBefore) || !slices.Equal(snapshot, snapshotBefore) || !slices.Equal(l, fieldsBefore) {
		t.Errorf("Match has changed its arguments to %s, %s and %s", shortened(names), shortened(snapshot), shortened(l))
	}
}

// Promise 19.1, Names

func TestNames(t *testing.T) {
	checkNames(t, fields("Vary: Accept"), "accept")
	checkNames(t, fields("Vary: Accept-Language, Accept"), "accept", "accept-language")
	checkNames(t, fields("Host: a", "Vary: User-Agent,Accept-Encoding,DPR", "Accept: text/html"), "accept-encoding", "dpr", "user-agent")
	checkNames(t, fields("vary: b \t,\ta", "A: x", "VARY: d", "vArY: C"), "a", "b", "c", "d")
	checkNames(t, fields("Vary: x-y!#$%&'*+.^_`|~9"), "x-y!#$%&'*+.^_`|~9")
}

// Other fields than Vary do not matter, not even if they hold "*".
func TestNamesWithoutVary(t *testing.T) {
	checkNames(t, nil)
	checkNames(t, []api.Field{})
	checkNames(t, fields("Accept: *", "Vary2: a b", "Var: a", "Vary : *", ": *", " Vary: *", "Variants: *", "V\u00e4ry: *", "var\u00ff: *"))
}

// A list without members is one of tokens, too.
func TestNamesOfListsWithoutMembers(t *testing.T) {
	checkNames(t, fields("Vary: "))
	checkNames(t, fields("Vary: ,, \t,"))
	checkNames(t, fields("Vary: ", "Vary:  ", "vary: ,"))
	checkNames(t, fields("Vary: ", "Vary: b", "vary: ,"), "b")
	checkNames(t, fields("Vary: ,b,,a, "), "a", "b")
}

// Members stand in the order of their bytes when they are in lower case.
func TestNamesAreSorted(t *testing.T) {
	checkNames(t, fields("Vary: c, b, a, B2, A1, C0"), "a", "a1", "b", "b2", "c", "c0")
	checkNames(t, fields("Vary: ab, a-b, a, a_b, A.B, aB1, a~"), "a", "a-b", "a.b", "a_b", "ab", "ab1", "a~")
	checkNames(t, fields("Vary: Z, a, Y, _, ^, 9, |, `"), "9", "^", "_", "`", "a", "y", "z", "|")
	reversed := numbered(63)
	slices.Reverse(reversed)
	checkNames(t, fields("Vary: "+strings.Join(reversed, ",")), numbered(63)...)
}

// Members that differ in case are one name.
func TestNamesStandOnce(t *testing.T) {
	checkNames(t, fields("Vary: a, a"), "a")
	checkNames(t, fields("Vary: a, A"), "a")
	checkNames(t, fields("Vary: A, b, a", "Vary: B", "Vary: aB, a, B"), "a", "ab", "b")
	checkNames(t, fields("Vary: Accept-Encoding, ACCEPT-ENCODING", "vary: accept-encoding"), "accept-encoding")
	checkNames(t, fields("Vary: "+strings.Repeat("x,Y,", 31)), "x", "y")
}

func TestNamesOfListsWithAsterisk(t *testing.T) {
	checkNoNames(t, fields("Vary: *"))
	checkNoNames(t, fields("Vary:  * ,"))
	checkNoNames(t, fields("Vary: a, *"))
	checkNoNames(t, fields("Vary: *, a"))
	checkNoNames(t, fields("Vary: a, *, b"))
	checkNoNames(t, fields("Vary: a", "vary: *", "VARY: b"))
	// Only the member "*" itself is special.
	checkNames(t, fields("Vary: **, *a, a*, a*b"), "**", "*a", "a*", "a*b")
}

func TestNamesOfMembersThatAreNoTokens(t *testing.T) {
	for _, member := range texts("a b", "a\tb", `"a"`, `"a,b"`, `"`, `"a`, "a;b", "a=b", "a/b", "(a)", "a:", "\u00e4", "\xff", "a\x00", "\x7f", "a\r\nb", "[", "{a}", "@", `\`, "a?", "<", "*;q=1", `"*"`, "* *") {
		checkNoNames(t, fields("Vary: "+member))
		checkNoNames(t, fields("Vary: a, "+member))
		checkNoNames(t, fields("Vary: "+member+", a"))
		checkNoNames(t, fields("Vary: a", "Vary: b, "+member, "Vary: c"))
	}
}

// Every byte is a member, and stands in the middle and at both ends of one.
func TestNamesOfEveryByte(t *testing.T) {
	const tokenBytes = "!#$%&'*+-.^_`|~0123456789abcdefghijklmnopqrstuvwxyzABCDEFGHIJKLMNOPQRSTUVWXYZ"
	for b := range 256 {
		single := string([]byte{byte(b)})
		alone, middle, start, end := fields("Vary: "+single), fields("Vary: n"+single+"n"), fields("Vary: "+single+"n"), fields("Vary: n"+single)
		switch {
		case strings.Contains(tokenBytes, single):
			lower := strings.ToLower(single)
			if b == '*' {
				checkNoNames(t, alone)
			} else {
				checkNames(t, alone, lower)
			}
			checkNames(t, middle, "n"+lower+"n")
			checkNames(t, start, lower+"n")
			checkNames(t, end, "n"+lower)
		case b == ',' || b == ' ' || b == '\t':
			if b == ',' {
				checkNames(t, middle, "n")
			} else {
				checkNoNames(t, middle)
			}
			checkNames(t, alone)
			checkNames(t, start, "n")
			checkNames(t, end, "n")
		default:
			checkNoNames(t, alone)
			checkNoNames(t, middle)
			checkNoNames(t, start)
			checkNoNames(t, end)
		}
	}
}

// With MaxMembers members, there may be others behind them.
func TestNamesOfManyMembers(t *testing.T) {
	most := api.MaxMembers - 1
	checkNames(t, fields("Vary: "+strings.Join(numbered(most), ", ")), numbered(most)...)
	checkNames(t, fields("Vary: ,"+strings.Join(numbered(most), ",, ,")+","), numbered(most)...)
	checkNames(t, fields("Vary: "+strings.Repeat("a,", most)), "a")
	checkNoNames(t, fields("Vary: "+strings.Repeat("a,", api.MaxMembers)))
	checkNoNames(t, fields("Vary: "+strings.Repeat("a,", api.MaxMembers+1)))
	for _, count := range []int{api.MaxMembers, api.MaxMembers + 1, 2 * api.MaxMembers, 100000} {
		checkNoNames(t, fields("Vary: "+strings.Join(numbered(count), ",")))
	}
	var lines []string
	for _, member := range numbered(most) {
		lines = append(lines, "Vary: "+member)
	}
	checkNames(t, fields(lines...), numbered(most)...)
	checkNames(t, fields(append(lines, "Vary: , ", "Accept: x")...), numbered(most)...)
	checkNoNames(t, fields(append(lines, "Vary: m-1000")...))
	checkNoNames(t, fields(append(lines, "Vary: *")...))
}

func TestNamesOfLongMembers(t *testing.T) {
	long := strings.Repeat("Name", 50000)
	checkNames(t, fields("Vary: b, "+long, "Vary: "+strings.ToUpper(long)), "b", strings.ToLower(long))
	checkNoNames(t, fields("Vary: b, "+long+" x"))
}

// Promise 19.2, Value

func TestValueOfFieldsThatAreMissing(t *testing.T) {
	checkValue(t, "User-Agent", nil, "")
	checkValue(t, "User-Agent", []api.Field{}, "")
	checkValue(t, "User-Agent", fields("User: a", "User-Agent2: b", "User Agent: c", ": d", "Accept: e"), "")
	checkValue(t, "", fields("User-Agent: a"), "")
	for _, name := range fourNames() {
		checkValue(t, name, nil, "")
		checkValue(t, name, fields(name+"s: a", "Host: b", " "+name+": c"), "")
	}
	checkValue(t, "accept", fields("Accept-Language: a", "Accept-Charset: b", "Accept-Encoding: c"), "")
}

func TestValueOfOtherFields(t *testing.T) {
	checkValue(t, "User-Agent", fields("User-Agent: Ab/1.0 (c,D)"), "=Ab/1.0 (c,D)")
	checkValue(t, "User-Agent", fields("Host: a", "User-Agent: "), "=")
	checkValue(t, "DPR", fields("DPR: 2", "Host: a", "DPR: 1"), "=2, 1")
	checkValue(t, "dpr", fields("DPR: a", "Dpr: ", "dpr: b"), "=a, , b")
	checkValue(t, "DPR", fields("dpr: ", "dpr: "), "=, ")
	// Blanks, commas and case stay as they are.
	checkValue(t, "x", fields("X: A ,b,,  C\t", "x:  d "), "=A ,b,,  C\t,  d ")
	checkValue(t, "x", fields(`X: "a`, `x: b", C`), `="a, b", C`)
	checkValue(t, "x", fields("x: =a"), "==a")
	// Nothing is judged, neither names nor values.
	checkValue(t, "", fields(": a", "A: b", ": c"), "=a, c")
	checkValue(t, "a b", fields("A B: \r\n\x00\xff"), "=\r\n\x00\xff")
	checkValue(t, "*", fields("*: a"), "=a")
}

// Names that are similar to those of the four fields are no names of them.
func TestValueOfNamesThatAreSimilar(t *testing.T) {
	for _, name := range texts("Accept-Ranges", "Accept-", "Accept-Languages", "Accept-Encodin", "Accept ", " Accept", "Accept_Language", "Accept-Patch", "\u00c0ccept", "Language", "X-Accept-Charset", "TE") {
		checkValue(t, name, fields(name+": A ,B"), "=A ,B")
	}
}

func TestValueOfTheFourFields(t *testing.T) {
	for _, name := range fourNames() {
		for _, one := range texts(name, strings.ToLower(name), strings.ToUpper(name)) {
			for _, other := range texts(name, strings.ToLower(name), strings.ToUpper(name)) {
				checkValue(t, one, fields(other+": EN , de"), "=en, de")
			}
		}
		checkValue(t, name, fields(name+": "), "=")
		checkValue(t, name, fields(name+":  ,\t, "), "=")
		checkValue(t, name, fields(name+": ", name+": ,"), "=")
		checkValue(t, name, fields(name+": B,a", "Host: c", strings.ToLower(name)+": D ,, C", name+": ", name+": b"), "=b, a, d, c, b")
		checkValue(t, name, fields(name+": a;Q=0.5 , A; q=0.50"), "=a;q=0.5, a; q=0.50")
		checkValue(t, name, fields(name+`: A;b="C , d,,"  ,"E\",F`, name+": G"), `=a;b="c , d,,", "e\",f, g`)
		// Malformed members count as others do.
		checkValue(t, name, fields(name+": A B,;, =,\u00c4\xff,\x00,*"), "=a b, ;, =, \u00c4\xff, \x00, *")
	}
}

// Each field is cut on its own.
func TestValueOfQuotedStringsWithoutEnd(t *testing.T) {
	checkValue(t, "accept", fields(`Accept: A,"B , c`, `Accept: D ,e",F`), `=a, "b , c, d, e",f`)
	checkValue(t, "accept", fields(`Accept: "A\`, `Accept: ",B`), `="a\, ",b`)
}

// Blanks are spaces and tabs, and only A to Z have another case.
func TestValueOfEveryByte(t *testing.T) {
	for b := range 256 {
		single := string([]byte{byte(b)})
		member, end := "a"+single+"b", single+"b"
		switch {
		case b == ',':
			member, end = "a, b", "b"
		case b == ' ' || b == '\t':
			end = "b"
		case 'A' <= b && b <= 'Z':
			member, end = strings.ToLower(member), strings.ToLower(end)
		case b == '"':
			end = `"b,c `
		}
		between := ", c"
		if b == '"' {
			member, between = `a"b,c `, ""
		}
		for _, name := range fourNames() {
			// A quoted string without end goes to the end, with the blank there, which is
			// then cut off as that of the member.
			checkValue(t, name, fields(name+": a"+single+"b,c "), "="+strings.TrimRight(member, " ")+between)
			checkValue(t, name, fields(name+": "+single+"b,c "), "="+strings.TrimRight(end, " ")+between)
		}
		checkValue(t, "dpr", fields("DPR: a"+single+"b,c "), "=a"+single+"b,c ")
	}
}

// With MaxMembers members, there may be others behind them: the values stand as they
// are.
func TestValueOfManyMembers(t *testing.T) {
	most := api.MaxMembers - 1
	for _, name := range fourNames() {
		checkValue(t, name, fields(name+": "+strings.Repeat("A ,,", most)), "="+strings.Repeat("a, ", most-1)+"a")
		for _, count := range []int{api.MaxMembers, api.MaxMembers + 1, 3 * api.MaxMembers, 100000} {
			many := strings.Repeat("A ,,", count)
			checkValue(t, name, fields(name+": "+many), "="+many)
		}
		first, second := strings.Repeat("A ,", 40), strings.Repeat("\tB,", 23)
		checkValue(t, name, fields(name+": "+first, "a: b", name+": "+second), "="+strings.Repeat("a, ", 40)+strings.Repeat("b, ", 22)+"b")
		checkValue(t, name, fields(name+": "+first, "a: b", name+": "+second+" C"), "="+first+", "+second+" C")
		checkValue(t, name, fields(name+": "+first, name+": "+second, name+": C ", name+": ", name+":  d"), "="+first+", "+second+", C , ,  d")
	}
	checkValue(t, "dpr", fields("DPR: "+strings.Repeat("A ,,", 100000)), "="+strings.Repeat("A ,,", 100000))
}

// Promise 19.3, Snapshot

func TestSnapshot(t *testing.T) {
	l := fields("Host: a", "Accept: B ,c", "DPR: 2 ,1", "User-Agent: D/1", "accept: E")
	checkSnapshot(t, texts("accept", "dpr", "user-agent"), l, "=b, c, e", "=2 ,1", "=D/1")
	checkSnapshot(t, texts("user-agent", "Accept", "width", "HOST"), l, "=D/1", "=b, c, e", "", "=a")
	checkSnapshot(t, texts("dpr", "dpr", "DPR"), l, "=2 ,1", "=2 ,1", "=2 ,1")
	checkSnapshot(t, texts("", "*", "a b", "x"), l, "", "", "", "")
	checkSnapshot(t, texts("accept", "accept-language"), nil, "", "")
	checkSnapshot(t, nil, l)
	checkSnapshot(t, []string{}, nil)
	checkSnapshot(t, numbered(1000), fields("m-1001: a"), append([]string{"", "=a"}, make([]string, 998)...)...)
}

// Promise 19.3, Match

func TestMatch(t *testing.T) {
	names := texts("accept", "dpr", "user-agent")
	l := fields("Accept: b, c", "DPR: 2")
	snapshot := texts("=b, c", "=2", "")
	checkMatch(t, true, names, snapshot, l)
	checkMatch(t, true, names, snapshot, fields("dpr: 2", "Host: x", "ACCEPT:  B", "accept: ,C"))
	checkMatch(t, false, names, snapshot, fields("Accept: c, b", "DPR: 2"))
	checkMatch(t, false, names, snapshot, fields("Accept: b, c", "DPR: 2 "))
	checkMatch(t, false, names, snapshot, fields("Accept: b, c"))
	checkMatch(t, false, names, snapshot, fields("Accept: b, c", "DPR: 2", "User-Agent: "))
	checkMatch(t, false, names, snapshot, fields("Accept: b, c", "DPR: 2", "DPR: "))
	checkMatch(t, false, names, snapshot, nil)
	checkMatch(t, true, names, texts("", "", ""), nil)
	// Snapshots are compared byte by byte, also those of the four fields.
	checkMatch(t, false, names, texts("=B, c", "=2", ""), l)
	checkMatch(t, false, names, texts("=b,c", "=2", ""), l)
	checkMatch(t, false, names, texts("b, c", "=2", ""), l)
	checkMatch(t, false, names, texts("=b, c", "=2", "="), l)
	checkMatch(t, false, names, texts("=2", "=b, c", ""), l)
}

// A field without a value is not a field that is missing.
func TestMatchOfFieldsWithoutValue(t *testing.T) {
	for _, name := range append(fourNames(), "user-agent", "") {
		empty := fields(name + ": ")
		checkMatch(t, true, texts(name), vary.Snapshot(texts(name), empty), empty)
		checkMatch(t, false, texts(name), vary.Snapshot(texts(name), empty), nil)
		checkMatch(t, false, texts(name), vary.Snapshot(texts(name), nil), empty)
	}
}

func TestMatchOfOtherLengths(t *testing.T) {
	l := fields("A: 1", "B: 2")
	checkMatch(t, true, nil, nil, l)
	checkMatch(t, true, []string{}, nil, nil)
	checkMatch(t, true, nil, []string{}, l)
	checkMatch(t, false, nil, texts(""), l)
	checkMatch(t, false, texts("c"), nil, l)
	checkMatch(t, false, texts("a"), []string{}, l)
	checkMatch(t, false, texts("a", "b"), texts("=1"), l)
	checkMatch(t, false, texts("a"), texts("=1", "=2"), l)
	checkMatch(t, false, texts("a", "b"), texts("=1", "=2", ""), l)
	checkMatch(t, false, texts("a", "b", "c"), texts("=1", "=2"), l)
	checkMatch(t, true, texts("a", "b", "c"), texts("=1", "=2", ""), l)
	checkMatch(t, false, texts("a"), numbered(1000), l)
	checkMatch(t, false, numbered(1000), texts("=1"), l)
}

// Each place is compared.
func TestMatchOfEachPlace(t *testing.T) {
	names := numbered(20)
	var l []api.Field
	for i, name := range names {
		l = append(l, api.Field{Name: name, Value: strconv.Itoa(i)})
	}
	snapshot := vary.Snapshot(names, l)
	checkMatch(t, true, names, snapshot, l)
	for i := range names {
		changed := slices.Clone(snapshot)
		changed[i] += "x"
		checkMatch(t, false, names, changed, l)
		other := slices.Clone(l)
		other[i].Value = ""
		checkMatch(t, false, names, snapshot, other)
		checkMatch(t, false, names, snapshot, slices.Delete(slices.Clone(l), i, i+1))
	}
}

// The chapter's examples

func TestExamples(t *testing.T) {
	names := texts("accept-language", "user-agent")
	snapshot := vary.Snapshot(names, fields("Accept-Language: en,DE", "User-Agent: en,DE"))
	checkMatch(t, true, names, snapshot, fields("Accept-Language: EN , de", "User-Agent: en,DE"))
	checkMatch(t, false, names, snapshot, fields("Accept-Language: EN , de", "User-Agent: EN , de"))
	checkMatch(t, false, names, snapshot, fields("Accept-Language: en,DE", "User-Agent: en, DE"))
	checkMatch(t, false, names, snapshot, fields("Accept-Language: en,DE", "User-Agent: en,de"))
	checkValue(t, "Accept-Language", fields("Accept-Language: en,DE"), "=en, de")
	checkValue(t, "Accept-Language", fields("Accept-Language: EN , de"), "=en, de")
}

// Rules R4 and R6

func TestResultsShareNoMemory(t *testing.T) {
	l := fields("Vary: b, a", "Accept: x", "DPR: 2")
	names, _ := vary.Names(l)
	again, _ := vary.Names(l)
	snapshot := vary.Snapshot(names, l)
	names[0], l[0].Value, l[1].Value = "changed", "c", "y"
	// Nothing may be written behind the end of a list either.
	room := append(make([]string, 0, 8), "dpr", "accept", "x")
	part := vary.Snapshot(room[:2], l)
	_ = append(part, "changed")
	if !slices.Equal(again, texts("a", "b")) || !slices.Equal(snapshot, texts("", "")) || !slices.Equal(part, texts("=2", "=y")) || room[2] != "x" {
		t.Errorf("the results have become %q, %q, %q and %q", again, snapshot, part, room)
	}
	part[0] = "changed"
	checkSnapshot(t, room[:2], l, "=2", "=y")
}

func TestRepeatedCalls(t *testing.T) {
	for range 100 {
		checkNames(t, fields("Vary: b, A"), "a", "b")
		checkNoNames(t, fields("Vary: b, *"))
		checkNames(t, nil)
		checkValue(t, "accept", fields("Accept: B"), "=b")
		checkValue(t, "accept", nil, "")
		checkSnapshot(t, texts("a", "accept"), fields("Accept: B", "A: B"), "=B", "=b")
		checkMatch(t, false, texts("a"), texts("=b"), fields("A: B"))
	}
}
