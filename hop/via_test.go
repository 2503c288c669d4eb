package hop_test

import (
	"math"
	"slices"
	"strconv"
	"strings"
	"testing"

	"variantproxy/api"
	"variantproxy/hop"
)

// checkVia expects the fields of l and behind them one named Via with this value, and that
// l, with the memory behind its end, is neither changed nor shared.
func checkVia(t *testing.T, l []api.Field, minor int, name, want string) {
	t.Helper()
	before := slices.Clone(l)
	spare := api.Field{Name: "Spare", Value: "spare"}
	argument := append(append(make([]api.Field, 0, len(l)+1), l...), spare)
	got := hop.Via(argument[:len(l)], minor, name)
	if !slices.Equal(got, append(slices.Clone(l), api.Field{Name: "Via", Value: want})) {
		t.Errorf("Via(%s, %d, %.60q) = %s (%d)", shortened(l), minor, name, shortened(got), len(got))
	}
	for i := range got {
		got[i] = api.Field{}
	}
	if !slices.Equal(argument[:len(l)], before) || argument[len(l)] != spare {
		t.Errorf("Via has changed or shares its argument, now %s", shortened(argument))
	}
}

// Promise 25.2

func TestVia(t *testing.T) {
	checkVia(t, nil, 1, "proxy", "1.1 proxy")
	checkVia(t, []api.Field{}, 0, "proxy", "1.0 proxy")
	checkVia(t, fields("Host: a"), 1, "vp", "1.1 vp")
	checkVia(t, fields("Host: a", "Date: b", "host: c"), 0, "x-y.z", "1.0 x-y.z")
	checkVia(t, named(append(hopFields(), protectedFields()...)), 1, "p", "1.1 p") // nothing is left out
}

func TestMinors(t *testing.T) {
	for minor, want := range map[int]string{
		0: "1.0 p", 1: "1.1 p", 2: "1.2 p", 9: "1.9 p", 10: "1.10 p", 11: "1.11 p", 99: "1.99 p", 100: "1.100 p", 1234567890: "1.1234567890 p",
		-1: "1.-1 p", -2: "1.-2 p", -9: "1.-9 p", -10: "1.-10 p", -100: "1.-100 p", -1234567890: "1.-1234567890 p",
		math.MaxInt32: "1.2147483647 p", math.MinInt32: "1.-2147483648 p",
	} {
		checkVia(t, nil, minor, "p", want)
	}
	for _, minor := range []int{math.MaxInt, math.MinInt, math.MaxInt - 1, math.MinInt + 1, math.MaxInt / 10, math.MinInt / 10} {
		checkVia(t, fields("Host: a"), minor, "p", "1."+strconv.Itoa(minor)+" p")
	}
	for minor := -3000; minor <= 3000; minor++ {
		checkVia(t, nil, minor, "p", "1."+strconv.Itoa(minor)+" p")
	}
}

// The name stands as it is.
func TestNames(t *testing.T) {
	for _, name := range []string{"", " ", "a", "A", "Proxy", "pROXY", "127", "1.1 a", "a b", " a ", "\ta", "a,b", "a, 1.0 b", `"a`, "a (b)", "example.org:8080", "-", "%d%s", "\u00e4\u4e16", "\xff\x00\r\n", "Via", strings.Repeat("Name", 100000)} {
		checkVia(t, fields("Host: a"), 1, name, "1.1 "+name)
		checkVia(t, nil, -12, name, "1.-12 "+name)
	}
	for c := range 256 {
		single := string([]byte{byte(c)})
		checkVia(t, nil, 0, single, "1.0 "+single)
		checkVia(t, nil, 1, "n"+single+"n", "1.1 n"+single+"n")
	}
}

// A field is appended also if there is one with this name, which may even be the same.
func TestFieldsNamedVia(t *testing.T) {
	for _, spelling := range spellings("Via") {
		checkVia(t, fields(spelling+": 1.0 a"), 1, "b", "1.1 b")
		checkVia(t, fields(spelling+": 1.1 b", "Host: c", spelling+": "), 1, "b", "1.1 b")
		checkVia(t, hop.Via(fields(spelling+": 1.1 b", "Host: c"), 1, "b"), 1, "b", "1.1 b")
	}
}

func TestFieldsBeforeVia(t *testing.T) {
	odd := []api.Field{{}, {Name: "B", Value: " \tx "}, {Name: "a"}, {Name: "A", Value: "\x00\r\n\xff"}, {Name: "Connection", Value: "via, a"}, {Name: "a"}, {Value: "Via"}}
	checkVia(t, odd, 1, "p", "1.1 p")
	for count := range 100 {
		checkVia(t, named(numbered(count)), count, "p", "1."+strconv.Itoa(count)+" p")
	}
	checkVia(t, named(numbered(200000)), 1, "p", "1.1 p")
}

// What is appended is not left out again, whatever Connection lists.
func TestViaAndStrip(t *testing.T) {
	l := fields("Connection: via, close, X", "X: a", "Via: 1.0 b", "TE: c", "Y: d")
	checkStrip(t, hop.Via(l, 1, "p"), fields("Via: 1.0 b", "Y: d", "Via: 1.1 p")...)
	checkVia(t, hop.Strip(l), 1, "p", "1.1 p")
}

// Rules R4 and R6: results of the same fields share no memory, also if there is room behind
// these.
func TestRepeatedVias(t *testing.T) {
	l := append(make([]api.Field, 0, 100), fields("Host: a", "Date: b")...)
	one, other := hop.Via(l, 0, "one"), hop.Via(l, 1, "other")
	if !slices.Equal(one, fields("Host: a", "Date: b", "Via: 1.0 one")) || !slices.Equal(other, fields("Host: a", "Date: b", "Via: 1.1 other")) {
		t.Errorf("two results are %s and %s", shortened(one), shortened(other))
	}
	_, _ = append(one, api.Field{Name: "X"}), append(l, api.Field{Name: "Y"})
	one[0], l[1] = api.Field{Name: "Z"}, api.Field{Name: "Z"}
	if !slices.Equal(other, fields("Host: a", "Date: b", "Via: 1.1 other")) || one[1].Name != "Date" || one[2].Name != "Via" {
		t.Errorf("two results share memory: they are %s and %s", shortened(one), shortened(other))
	}
	for range 100 {
		checkVia(t, l[:1], 1, "p", "1.1 p")
		checkVia(t, nil, 0, "q", "1.0 q")
	}
}
