package hop_test

import (
	"fmt"
	"slices"
	"strconv"
	"strings"
	"testing"

	"variantproxy/api"
	"variantproxy/hop"
)

// fields returns the fields that the lines hold, of which the value is kept as it
// stands behind the colon and a space.
func fields(lines ...string) []api.Field {
	var l []api.Field
	for _, line := range lines {
		name, value, _ := strings.Cut(line, ": ")
		l = append(l, api.Field{Name: name, Value: value})
	}
	return l
}

func connection(value string) api.Field {
	return api.Field{Name: "Connection", Value: value}
}

// hopFields are the names of the fields that are always left out.
func hopFields() []string {
	return []string{
		"Connection", "Keep-Alive", "Proxy-Connection", "Proxy-Authenticate", "Proxy-Authorization",
		"TE", "Trailer", "Transfer-Encoding", "Content-Length", "Upgrade",
	}
}

// protectedFields are the names of the fields that are never left out.
func protectedFields() []string {
	return []string{"Host", "Cache-Control", "Vary", "Variants", "Variant-Key", "Via"}
}

// ordinaryFields are names of fields that are left out only if Connection lists them.
func ordinaryFields() []string {
	return []string{
		"Accept", "Accept-Encoding", "Accept-Language", "Age", "Allow", "Authorization", "Close", "Content-Encoding", "Content-Location", "Content-Type", "Cookie", "Date", "ETag", "Expect",
		"Expires", "Forwarded", "From", "HTTP2-Settings", "If-Match", "If-Modified-Since", "If-None-Match", "If-Range", "Last-Modified", "Link", "Location", "Max-Forwards", "Origin", "Pragma",
		"Proxy-Authentication-Info", "Proxy-Status", "Range", "Referer", "Retry-After", "Server", "Set-Cookie", "Trailers", "User-Agent", "WWW-Authenticate", "Warning", "X-a", "x", "0", "!#$%&'*+-.^_`|~",
	}
}

// swapped returns s with the other case of each ASCII letter.
func swapped(s string) string {
	other := []byte(s)
	for i, c := range other {
		if 'a' <= c && c <= 'z' || 'A' <= c && c <= 'Z' {
			other[i] = c ^ 0x20
		}
	}
	return string(other)
}

// lowered returns s with the ASCII letters in lower case, and all other bytes as they are.
func lowered(s string) string {
	lower := []byte(s)
	for i, c := range lower {
		if 'A' <= c && c <= 'Z' {
			lower[i] = c + 'a' - 'A'
		}
	}
	return string(lower)
}

// spellings returns a name in several cases.
func spellings(name string) []string {
	mixed := []byte(lowered(name))
	for i := 0; i < len(mixed); i += 2 {
		mixed[i] = strings.ToUpper(string(mixed[i]))[0]
	}
	return []string{name, lowered(name), strings.ToUpper(name), swapped(name), string(mixed)}
}

// numbered returns count different names.
func numbered(count int) []string {
	var names []string
	for i := range count {
		names = append(names, "M-"+strconv.Itoa(i))
	}
	return names
}

// named returns a field for each name, of which the value is its number.
func named(names []string) []api.Field {
	var l []api.Field
	for i, name := range names {
		l = append(l, api.Field{Name: name, Value: strconv.Itoa(i)})
	}
	return l
}

// shortened returns the beginning of the text of a list.
func shortened[T any](l []T) string {
	return fmt.Sprintf("%.400q", fmt.Sprint(l[:min(len(l), 20)]))
}

// checkStrip expects these fields, and that l, with the memory behind its end, is neither
// changed nor shared.
func checkStrip(t *testing.T, l []api.Field, want ...api.Field) {
	t.Helper()
	before := slices.Clone(l)
	spare := api.Field{Name: "Spare", Value: "spare"}
	argument := append(append(make([]api.Field, 0, len(l)+1), l...), spare)
	got := hop.Strip(argument[:len(l)])
	if !slices.Equal(got, want) {
		t.Errorf("Strip(%s) = %s (%d), not %s (%d)", shortened(l), shortened(got), len(got), shortened(want), len(want))
	}
	got = append(got, api.Field{Name: "Other"})
	for i := range got {
		got[i] = api.Field{}
	}
	if !slices.Equal(argument[:len(l)], before) || argument[len(l)] != spare {
		t.Errorf("Strip has changed or shares its argument, now %s", shortened(argument))
	}
}

// checkKept expects that a field with this name is kept beside these fields.
func checkKept(t *testing.T, name string, others ...api.Field) {
	t.Helper()
	f := api.Field{Name: name, Value: "v"}
	checkStrip(t, append(slices.Clone(others), f), append(hop.Strip(others), f)...)
	checkStrip(t, append([]api.Field{f}, others...), append([]api.Field{f}, hop.Strip(others)...)...)
}

// checkLeftOut expects that a field with this name is left out beside these fields.
func checkLeftOut(t *testing.T, name string, others ...api.Field) {
	t.Helper()
	f := api.Field{Name: name, Value: "v"}
	checkStrip(t, append(slices.Clone(others), f), hop.Strip(others)...)
	checkStrip(t, append([]api.Field{f}, others...), hop.Strip(others)...)
}

// Promise 25.1, the fields that are always left out

func TestHopFields(t *testing.T) {
	for _, name := range hopFields() {
		for _, spelling := range spellings(name) {
			checkStrip(t, []api.Field{{Name: spelling}})
			checkStrip(t, fields("Date: a", spelling+": b", "Age: c"), fields("Date: a", "Age: c")...)
			checkStrip(t, fields(spelling+": b", "Date: a", spelling+": ", spelling+": c"), fields("Date: a")...)
		}
	}
}

// The value of such a field does not matter.
func TestHopFieldsWithAnyValue(t *testing.T) {
	for _, name := range hopFields() {
		for _, value := range []string{"", " ", "close", "0", "chunked", "trailers", "timeout=5, max=100", "websocket", `"a, b`, "host", "\x00\r\n\xff", strings.Repeat("a", 100000)} {
			checkStrip(t, []api.Field{{Name: name, Value: value}})
			checkStrip(t, []api.Field{{Name: "Accept", Value: value}, {Name: name, Value: value}}, api.Field{Name: "Accept", Value: value})
		}
	}
}

func TestAllHopFieldsTogether(t *testing.T) {
	var l, want []api.Field
	for i, name := range hopFields() {
		kept := api.Field{Name: ordinaryFields()[i], Value: name}
		l = append(l, api.Field{Name: name, Value: "a"}, kept, api.Field{Name: lowered(name)})
		want = append(want, kept)
	}
	checkStrip(t, l, want...)
	checkStrip(t, named(hopFields()))
}

// Promise 25.1, the fields that are kept

func TestWithoutFields(t *testing.T) {
	checkStrip(t, nil)
	checkStrip(t, []api.Field{})
}

// The fields stand in their order, with their names and values as they are, also if a name
// stands several times.
func TestKeptFields(t *testing.T) {
	for _, name := range append(ordinaryFields(), protectedFields()...) {
		for _, spelling := range spellings(name) {
			checkKept(t, spelling)
			checkKept(t, spelling, fields("Connection: keep-alive, Y", "Keep-Alive: "+spelling)...)
		}
	}
	l := append(named(ordinaryFields()), named(protectedFields())...)
	checkStrip(t, l, l...)
	slices.Reverse(l)
	checkStrip(t, l, l...)
	checkStrip(t, append(l, l...), append(l, l...)...)
	odd := []api.Field{{}, {Name: "B", Value: " \tx "}, {Name: "a", Value: ""}, {Name: "A", Value: "\x00\r\n\xff"}, {Name: " ", Value: "TE"}, {Name: "a", Value: ""}, {Value: "Upgrade"}}
	checkStrip(t, odd, odd...)
}

// Names are similar to those of the fields, but none of them.
func TestSimilarNames(t *testing.T) {
	for _, name := range []string{
		"", "Connections", "Connect", "Close", "Keep", "Alive", "KeepAlive", "Keep_Alive", "Keep-Alive-", "Proxy", "Proxy-", "Proxy-Connections", "Proxy-Authorisation", "Proxy-Authentication-Info",
		"Authenticate", "Authorization", "WWW-Authenticate", "T", "E", "TEE", "TE-", "Trailers", "Trail", "Transfer", "Encoding", "Content-Encoding", "Accept-Encoding", "Transfer-Codings",
		"Content", "Length", "Content-Lengths", "Content-Type", "Upgrades", "Upgrade-Insecure-Requests", "Up", "Grade", "A-Connection", "X-TE", "X-Upgrade", "Not-Trailer",
		"\u212aeep-Alive", "Tran\u017ffer-Encoding", "\u0422E", "Up\u0261rade", "Tra\u0131ler", "\uff34\uff25",
	} {
		checkKept(t, name)
		checkKept(t, name, fields("Connection: y", "TE: trailers", "Host: a")...)
	}
}

// Each byte of a name counts; only letters have another case.
func TestNamesWithAnotherByte(t *testing.T) {
	for _, name := range hopFields() {
		for i := range len(name) {
			checkKept(t, name[:i]+name[i+1:])
			for c := range 256 {
				other := string([]byte{byte(c)})
				if strings.EqualFold(other, name[i:i+1]) {
					checkLeftOut(t, name[:i]+other+name[i+1:])
				} else {
					checkKept(t, name[:i]+other+name[i+1:])
				}
				checkKept(t, name[:i]+other+name[i:])
			}
		}
		for c := range 256 {
			checkKept(t, name+string([]byte{byte(c)}))
		}
	}
}

// Several names with any bytes between and around them are no name, however they may be
// kept.
func TestNamesOfSeveralFields(t *testing.T) {
	separators := []string{"", ", ", ",,", "\r\n", "||", "; ", " - ", "  ", "\t\t", "\x00\x00", "\u00b7"}
	for c := range 256 {
		separators = append(separators, string([]byte{byte(c)}))
	}
	all := append(hopFields(), protectedFields()...)
	for i, name := range all {
		next := all[(i+1)%len(all)]
		for _, separator := range separators {
			for _, text := range []string{name + separator + next, separator + name + separator + next + separator, next + separator + name} {
				checkKept(t, text)
				checkKept(t, lowered(text))
			}
			if separator != "" {
				checkKept(t, separator+name+separator)
				checkKept(t, separator+lowered(name))
			}
		}
	}
	for _, separator := range separators {
		for _, names := range [][]string{hopFields(), protectedFields(), all} {
			text := strings.Join(names, separator)
			checkKept(t, text)
			checkKept(t, lowered(text))
			checkKept(t, separator+lowered(text)+separator)
		}
		checkKept(t, separator)
	}
}

// Promise 25.1, the fields that Connection lists

func TestExample(t *testing.T) {
	checkStrip(t, fields("Connection: close, X-a", "X-A: b"))
	checkStrip(t, fields("Host: a", "Connection: close, X-a", "X-A: b", "X-Ab: c"), fields("Host: a", "X-Ab: c")...)
}

func TestListedFields(t *testing.T) {
	for _, name := range ordinaryFields() {
		for _, listed := range spellings(name) {
			for _, spelling := range spellings(name) {
				checkLeftOut(t, spelling, connection(listed))
				checkLeftOut(t, spelling, fields("Host: a", "cONNECTION: close, "+listed, "TE: x", "Y: b")...)
			}
			checkKept(t, name+"s", connection(listed))
			checkKept(t, "s"+name, connection(listed))
			checkKept(t, name[1:]+"-", connection(listed))
			checkKept(t, name, connection(listed+"s"))
			checkKept(t, name, connection("s"+listed))
		}
	}
	// All fields with the name are left out, wherever they stand.
	checkStrip(t, fields("A: 1", "b: 2", "Connection: a", "a: 3", "B: 4", "A: 5"), fields("b: 2", "B: 4")...)
	checkStrip(t, fields("A: 1", "b: 2", "Connection: c, B, d", "a: 3", "B: 4", "C: 5"), fields("A: 1", "a: 3")...)
}

func TestListedNamesAmongBlanksAndEmptyMembers(t *testing.T) {
	for _, value := range []string{"x", " x", "x\t", " \tx \t ", "x,", ",x", ",, x\t,,", "close,x", "x , close", "close,\tx\t,keep-alive", "close, x, x, X"} {
		checkLeftOut(t, "X", connection(value))
		checkLeftOut(t, "x", fields("Connection: ", "Connection: "+value, "Connection: ,")...)
		checkKept(t, "", connection(value))
		checkKept(t, " ", connection(value))
		checkKept(t, " x", connection(value))
		checkKept(t, "x ", connection(value))
		checkKept(t, value+",", connection(value))
	}
	for _, value := range []string{"", " ", ",", " ,\t,, "} {
		for _, name := range []string{"", " ", "\t", ",", value, "x"} {
			checkKept(t, name, connection(value))
		}
	}
}

// All fields named Connection count, and they may stand behind the fields that they list.
func TestSeveralConnectionFields(t *testing.T) {
	l := fields("a: 1", "Connection: b", "B: 2", "c: 3", "connection: C, d", "D: 4", "e: 5", "CONNECTION: a")
	checkStrip(t, l, fields("e: 5")...)
	checkStrip(t, fields("Connection: close", "Connection: x", "X: 1", "Y: 2"), fields("Y: 2")...)
	checkStrip(t, fields("Connection: x", "Connection: close", "X: 1", "Y: 2"), fields("Y: 2")...)
	checkStrip(t, fields("X: 1", "Y: 2", "Connection: y", "Connection: x"))
	// Each of them is cut on its own.
	checkStrip(t, fields(`Connection: "a`, `Connection: b"`, "b: 1", "B\": 2", "\"a: 3", "a: 4"), fields("b: 1", "a: 4")...)
}

// Fields with other names list nothing.
func TestListsInOtherFields(t *testing.T) {
	for _, name := range []string{"", "Connections", "Connectio", " Connection", "Connection ", "Connection:", "Proxy-Connection", "Keep-Alive", "Trailer", "TE", "Upgrade", "Vary", "Cache-Control", "Via", "X-Connection", "close", "C\u043ennection"} {
		checkKept(t, "X", api.Field{Name: name, Value: "x"})
		checkKept(t, "x", api.Field{Name: name, Value: "close, X"}, connection("close"))
		checkKept(t, "X", connection(name), api.Field{Name: name, Value: "x"})
	}
	// Not even if Connection lists itself or another field.
	checkStrip(t, fields("Connection: connection, Y", "Y: x", "X: a"), fields("X: a")...)
}

// Members and names are compared as they stand, whatever they hold.
func TestListedNamesAreNotJudged(t *testing.T) {
	for _, member := range []string{"a b", "a\tb", `"a"`, `"a,b"`, `"a`, `a"b , c" d`, "a;b", "a=b", "a:", "*", "\u00e4", "\xff", "a\x00", "\x7f", "a\r\nb", "[", "@", `\`, `"\"`, `" `} {
		name := strings.TrimSpace(member)
		checkLeftOut(t, name, connection("close, "+member))
		checkLeftOut(t, swapped(name), connection(member))
		checkKept(t, member+"a", connection(member))
		checkKept(t, "a", connection(member))
		checkKept(t, "b", connection(member))
	}
	// A member is a name with all that it holds, and no name stands in quotes.
	checkKept(t, "x", fields("Connection: x;q=1, x=y, \"x\", x y, (x), 'x'")...)
	checkKept(t, "x", connection(`"close, x`))
	checkKept(t, "x", connection(`"close, x", y`))
	checkKept(t, "\u00e4", connection("\u00c4"))
	checkKept(t, "\u212a", connection("k"))
	checkKept(t, "k", connection("\u212a"))
	// There are no patterns.
	checkKept(t, "ab", fields("Connection: *, a*, a., ?, a")...)
}

func TestListedNamesOfEveryByte(t *testing.T) {
	for c := range 256 {
		single := string([]byte{byte(c)})
		for b := range 256 {
			other := string([]byte{byte(b)})
			switch {
			case c == ',' || c == ' ' || c == '\t':
				checkKept(t, other, connection(single))
			case single == other || 'A' <= c&0xdf && c&0xdf <= 'Z' && b == c^0x20:
				checkLeftOut(t, other, connection(single))
				checkLeftOut(t, "n"+other+"n", connection("n"+single+"n"))
			default:
				checkKept(t, other, connection(single))
				checkKept(t, "n"+other+"n", connection("n"+single+"n"))
			}
		}
	}
}

// Fields that are left out anyway may be listed.
func TestListedHopFields(t *testing.T) {
	for _, name := range hopFields() {
		for _, listed := range spellings(name) {
			checkLeftOut(t, name, connection(listed))
			checkLeftOut(t, swapped(name), connection("close, "+listed))
			checkKept(t, "X", connection(listed), api.Field{Name: name, Value: "X-a"})
		}
	}
}

// Promise 25.1, the exceptions

func TestProtectedFields(t *testing.T) {
	everything := connection(strings.Join(protectedFields(), ", "))
	for _, name := range protectedFields() {
		for _, spelling := range spellings(name) {
			for _, listed := range spellings(name) {
				checkKept(t, spelling, connection(listed))
				checkKept(t, spelling, fields("X: a", "Connection: x, "+listed, "connection: "+spelling+","+name)...)
			}
			checkKept(t, spelling, everything)
			// Other names beside them are left out all the same.
			checkStrip(t, fields("X: a", "Connection: "+name+", x", spelling+": b", "x: c"), fields(spelling+": b")...)
			checkStrip(t, fields("X: a", "Connection: x, "+name, spelling+": ", "x: c", name+": d"), fields(spelling+": ", name+": d")...)
		}
	}
	l := named(protectedFields())
	checkStrip(t, append(slices.Clone(l), everything), l...)
	checkStrip(t, append([]api.Field{everything}, l...), l...)
}

// Names that are similar to those of the exceptions are none.
func TestListedNamesSimilarToProtectedOnes(t *testing.T) {
	for _, name := range []string{"Hosts", "Hos", "Host-", "X-Host", "Cache", "Control", "Cache-Controls", "CacheControl", "Cache_Control", "Var", "Vari", "Variant", "Key", "Variants-Key", "Variant-Keys", "VariantKey", "Variants-", "Vi", "Vias", "Pragma", "Accept", "Date", "ETag", "\u24d7ost", "Ho\u017ft"} {
		checkLeftOut(t, name, connection(name))
		checkLeftOut(t, name, connection(strings.Join(append(protectedFields(), name), ", ")))
	}
	for _, name := range protectedFields() {
		for i := range len(name) {
			checkLeftOut(t, name[:i]+name[i+1:], connection(name[:i]+name[i+1:]))
			checkLeftOut(t, name[:i]+"x"+name[i:], connection(name[:i]+"x"+name[i:]))
			for _, other := range []string{"_", "-", "\x00", "\xff", "?", "."} {
				if changed := name[:i] + other + name[i+1:]; changed != name {
					checkLeftOut(t, changed, connection(changed))
				}
			}
		}
	}
}

// Several names with a byte between them are none of the exceptions, however these may be
// kept.
func TestListedNamesOfSeveralProtectedFields(t *testing.T) {
	names := protectedFields()
	for i, name := range names {
		next := names[(i+1)%len(names)]
		for c := range 256 {
			single := string([]byte{byte(c)})
			if c == ',' || c == '"' {
				continue
			}
			text := name + single + next
			checkLeftOut(t, text, connection(text))
			checkLeftOut(t, lowered(text), connection(text))
			all := lowered(strings.Join(names, single))
			checkLeftOut(t, all, connection(all))
		}
		text := name + `"",` + next + `"`
		checkKept(t, text, connection(text))
		text = name + `",` + next + `,"`
		checkLeftOut(t, text, connection(text))
		checkKept(t, name+","+next, connection(name+","+next))
	}
}

// list.All returns the first MaxMembers members only.

func TestLimitOfListedNames(t *testing.T) {
	for _, count := range []int{1, 10, api.MaxMembers - 1, api.MaxMembers, api.MaxMembers + 1, api.MaxMembers + 2, 3 * api.MaxMembers} {
		names := numbered(count)
		kept := named(names)[min(count, api.MaxMembers):]
		checkStrip(t, append(named(names), connection(strings.Join(names, ", "))), kept...)
		checkStrip(t, append(named(names), connection(",, "+lowered(strings.Join(names, " ,,\t, ")))), kept...)
		l := named(names)
		for _, name := range names {
			l = append(l, connection(name))
		}
		checkStrip(t, l, kept...)
		l = append(named(names), connection(","))
		for i := 0; i < count; i += 10 {
			l = append(l, connection(strings.Join(names[i:min(count, i+10)], ",")), connection(""))
		}
		checkStrip(t, l, kept...)
	}
}

// Members that change nothing are counted, too.
func TestLimitOfListedNamesThatChangeNothing(t *testing.T) {
	for _, member := range []string{"close", "a", "Host", "connection", `"a, b"`, "a b"} {
		before := strings.Repeat(member+", ", api.MaxMembers-1)
		checkLeftOut(t, "X", connection(before+"x"))
		checkKept(t, "X", connection(before+member+", x"))
		checkLeftOut(t, "X", connection(before), connection("x"))
		checkKept(t, "X", connection(before), connection(member), connection("x"))
		checkKept(t, "X", connection(strings.Repeat(member+",", 100000)+"x"))
	}
	// The limit concerns neither exceptions nor fields that are always left out.
	many := connection(strings.Join(numbered(api.MaxMembers), ","))
	for _, name := range protectedFields() {
		checkKept(t, name, many, connection(name))
	}
	for _, name := range hopFields() {
		checkLeftOut(t, name, many, connection(name))
	}
}

// Rules R1, R4 and R6

func TestStripOfLongLists(t *testing.T) {
	many := named(numbered(200000))
	checkStrip(t, many, many...)
	checkStrip(t, append(slices.Clone(many), connection("m-199999, M-0")), many[1:len(many)-1]...)
	checkStrip(t, slices.Repeat(fields("Connection: x", "X: a", "TE: b"), 100000))
	checkStrip(t, slices.Repeat(fields("Connection: x", "Y: a", "TE: b"), 100000), slices.Repeat(fields("Y: a"), 100000)...)
	long := strings.Repeat("Name", 100000)
	checkKept(t, long)
	checkLeftOut(t, long, connection(swapped(long)))
	checkKept(t, long, connection(long+"x"))
	checkKept(t, strings.Repeat("te", 100000), connection(strings.Repeat("te,", 100000)))
}

func TestRepeatedStrips(t *testing.T) {
	l := fields("Connection: x, Host", "X: a", "Y: b", "Host: c", "Upgrade: d")
	for range 100 {
		checkStrip(t, l, fields("Y: b", "Host: c")...)
		checkStrip(t, l[1:], fields("X: a", "Y: b", "Host: c")...)
		checkStrip(t, l[:2])
	}
	one, other := hop.Strip(l), hop.Strip(l)
	one[0] = api.Field{Name: "Z"}
	_ = append(one, api.Field{Name: "Z"})
	if !slices.Equal(other, fields("Y: b", "Host: c")) {
		t.Errorf("two results share memory: the other one is %s", shortened(other))
	}
	stripped := hop.Strip(l)
	checkStrip(t, stripped, stripped...)
}
