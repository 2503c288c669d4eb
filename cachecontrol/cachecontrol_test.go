package cachecontrol_test

import (
	"fmt"
	"math"
	"slices"
	"strconv"
	"strings"
	"testing"

	"variantproxy/api"
	"variantproxy/cachecontrol"
)

// fields returns the fields that the lines hold, of which the value is kept as it
// stands behind the colon and a space.
func fields(lines ...string) []api.Field {
	var l []api.Field
	for _, line := range lines {
		name, value, _ := strings.Cut(line, ": ")
		l = append(l, api.Field{Name: name, Value: value})
	}
	return l
}

// described returns what a control holds: the names of the fields that are true, and the
// numbers that are not -1.
func described(c api.Control) string {
	var parts []string
	for _, flag := range []struct {
		name string
		set  bool
	}{
		{"NoStore", c.NoStore}, {"NoCache", c.NoCache}, {"MustRevalidate", c.MustRevalidate},
		{"ProxyRevalidate", c.ProxyRevalidate}, {"Private", c.Private}, {"Public", c.Public},
		{"OnlyIfCached", c.OnlyIfCached},
	} {
		if flag.set {
			parts = append(parts, flag.name)
		}
	}
	for _, number := range []struct {
		name  string
		value int
	}{{"MaxAge", c.MaxAge}, {"SMaxAge", c.SMaxAge}, {"MinFresh", c.MinFresh}, {"MaxStale", c.MaxStale}} {
		if number.value != -1 {
			parts = append(parts, number.name+"="+strconv.Itoa(number.value))
		}
	}
	return strings.Join(parts, " ")
}

// shortened returns the beginning of the text of a list.
func shortened[T any](l []T) string {
	return fmt.Sprintf("%.300q", fmt.Sprint(l[:min(len(l), 20)]))
}

// checkControl expects that a function returns the control with this description, and does
// not change its argument.
func checkControl(t *testing.T, name string, function func([]api.Field) api.Control, l []api.Field, want string) {
	t.Helper()
	before := slices.Clone(l)
	if got := described(function(l)); got != want {
		t.Errorf("%s(%s) = %q, not %q", name, shortened(l), got, want)
	}
	if !slices.Equal(l, before) {
		t.Errorf("%s has changed its argument to %s", name, shortened(l))
	}
}

func checkResponse(t *testing.T, l []api.Field, want string) {
	t.Helper()
	checkControl(t, "Response", cachecontrol.Response, l, want)
}

func checkRequest(t *testing.T, l []api.Field, want string) {
	t.Helper()
	checkControl(t, "Request", cachecontrol.Request, l, want)
}

// checkFields expects this control of a response and of a request.
func checkFields(t *testing.T, l []api.Field, want string) {
	t.Helper()
	checkResponse(t, l, want)
	checkRequest(t, l, want)
}

// check expects this control of a response and of a request with this Cache-Control.
func check(t *testing.T, value, want string) {
	t.Helper()
	checkFields(t, []api.Field{{Name: "Host", Value: "a"}, {Name: "Cache-Control", Value: value}}, want)
}

// A flag is a directive that needs no argument.
type flag struct {
	directive, field string
}

func flags() []flag {
	return []flag{
		{"no-store", "NoStore"}, {"no-cache", "NoCache"}, {"must-revalidate", "MustRevalidate"},
		{"proxy-revalidate", "ProxyRevalidate"}, {"private", "Private"}, {"public", "Public"},
		{"only-if-cached", "OnlyIfCached"},
	}
}

// A numeric is a directive with a number; bare and wrong say what its field is without an
// argument, and with an argument that is no number.
type numeric struct {
	directive, field, bare, wrong string
}

func numerics() []numeric {
	const most = "2147483647"
	return []numeric{
		{"max-age", "MaxAge", "0", "0"}, {"s-maxage", "SMaxAge", "0", "0"},
		{"min-fresh", "MinFresh", most, most}, {"max-stale", "MaxStale", most, "0"},
	}
}

// malformed returns what may follow a name, but is neither a token nor a quoted string
// behind "=".
func malformed() []string {
	return []string{
		"=", "==", "==5", "= 5", " =5", " = 5", "=\t5", "\t=5", "=5 6", "=5 x", "=5=", "=5=6", "=5;x", "=5/", "=(5)", "=[5]",
		":5", ": 5", " 5", "\t5", "(5)", "/5", "?", "@", "{}", `\`, `=\`, `=\5`, `=5\`,
		`"5"`, `"`, `="`, `="5`, `=5"`, `=5"6"`, `="5"6`, `="5""6"`, `="5"="6"`, `="5" "6"`, `="5"6"`, `="5\"`, `="\"`, `="5\\\"`,
		`= "5"`, ` ="5"`, `=="5"`, "=\"5\x00\"", "=\"\n5\"", "=\"5\x7f\"", "=\"5\r\n\"", "=\u00b2", "=\u0665", "=5\x80", "=\x00", "=5\x00", "\x80", "\x00",
	}
}

// arguments returns what may follow a name as an argument, but stands for no number.
func arguments() []string {
	return []string{
		"=x", "=5x", "=x5", "=-5", "=+5", "=5.0", "=1e3", "=0x5", "=5_0", "='5'", "=%35", "=*", "=-", "=-1",
		`=""`, `="x"`, `=" "`, `=" 5"`, `="5 "`, `="-1"`, `="5,6"`, `="5;x"`, `="\"5\""`, `="\\5"`, `="5\x"`, `="=5"`, "=\"\t5\"", "=\"\u0665\"", "=\"\x80\"",
	}
}

// Promises 22.1 and 22.2, directives without a number

func TestFlags(t *testing.T) {
	for _, one := range flags() {
		check(t, one.directive, one.field)
		check(t, strings.ToUpper(one.directive), one.field)
		check(t, "\t"+strings.ToUpper(one.directive[:1])+one.directive[1:]+" ", one.field)
		check(t, one.directive+", x", one.field)
		check(t, "x,"+one.directive, one.field)
	}
}

// An argument does not matter, also if it is malformed.
func TestFlagsWithArguments(t *testing.T) {
	for _, one := range flags() {
		for _, rest := range append(append(malformed(), arguments()...), "=5", `="5"`, "=false", `="a, b"`) {
			check(t, one.directive+rest, one.field)
		}
	}
}

// Each field is set by one directive only.
func TestSeveralFlags(t *testing.T) {
	var directives, names []string
	for i, one := range flags() {
		directives, names = append(directives, one.directive), append(names, one.field)
		check(t, strings.Join(directives, ", "), strings.Join(names, " "))
		check(t, strings.Join(directives[i:], ","), one.field)
		check(t, one.directive+"="+strings.Join(directives[:i], "=")+", "+one.directive, one.field)
	}
	slices.Reverse(directives)
	check(t, strings.Join(directives, ","), strings.Join(names, " "))
	checkFields(t, fields("Cache-Control: "+strings.Join(directives[:3], ","), "cache-control: "+strings.Join(directives[3:], ",")), strings.Join(names, " "))
}

// Promise 22.1, names

// The longest token is the name, so that every byte of tokens makes another name.
func TestEveryByteBehindNames(t *testing.T) {
	for b := range 256 {
		single := string([]byte{byte(b)})
		for _, one := range flags() {
			want := one.field
			if isTokenByte(byte(b)) {
				want = ""
			}
			check(t, one.directive+single, want)
			check(t, one.directive+single+"=5", want)
			check(t, one.directive+single+"x", want)
		}
		for _, one := range numerics() {
			want := one.field + "=" + one.wrong
			switch {
			case isTokenByte(byte(b)):
				want = ""
			case b == ',':
				want = one.field + "=" + one.bare
			case b == '=':
				want = one.field + "=5"
			}
			check(t, one.directive+single+"5", want)
		}
	}
}

// A name stands at the beginning of a member.
func TestEveryByteBeforeNames(t *testing.T) {
	for b := range 256 {
		single := string([]byte{byte(b)})
		isLeftOut := b == ',' || b == ' ' || b == '\t'
		for _, one := range flags() {
			want := ""
			if isLeftOut {
				want = one.field
			}
			check(t, single+one.directive, want)
		}
		for _, one := range numerics() {
			want := ""
			if isLeftOut {
				want = one.field + "=5"
			}
			check(t, single+one.directive+"=5", want)
		}
	}
}

// Every byte in the place of every byte of a name.
func TestEveryByteOfNames(t *testing.T) {
	const name = "max-age"
	for place := range len(name) {
		for b := range 256 {
			changed := name[:place] + string([]byte{byte(b)}) + name[place+1:]
			want := ""
			if strings.EqualFold(changed, name) && b < 128 {
				want = "MaxAge=5"
			}
			check(t, changed+"=5", want)
		}
		check(t, name[:place]+"=5", "")
		check(t, name[place+1:]+"=5", "")
	}
}

func isTokenByte(b byte) bool {
	switch {
	case 'a' <= b && b <= 'z', 'A' <= b && b <= 'Z', '0' <= b && b <= '9':
		return true
	}
	return b != 0 && strings.IndexByte("!#$%&'*+-.^_`|~", b) >= 0
}

// Names of other directives set nothing.
func TestOtherNames(t *testing.T) {
	for _, value := range []string{
		"immutable", "no-transform", "stale-if-error=5", "stale-while-revalidate=5", "must-understand", "x", "x=5", `x="5"`,
		"nostore", "no_store", "no", "store", "no-", "-store", "no-storeno-cache", "no-store-no-cache", "no store", "maxage=5", "max_age=5", "max", "age=5",
		"smaxage=5", "s-max-age=5", "max-fresh=5", "min-stale=5", "stale", "max-age5", "max-age-5", "revalidate", "if-cached", "*", "-", "5", "60=max-age",
		"no-\u017ftore", "\u212ao-store", "publi\u00e7", "privat\u00e9", "no\u2010store",
	} {
		check(t, value, "")
	}
}

// A member that begins otherwise is no directive.
func TestMembersThatAreNoDirectives(t *testing.T) {
	for _, value := range []string{
		"", ",", " ,\t,", "=", "=5", "=max-age", `"no-store"`, `"max-age=5"`, `"max-age"=5`, `""no-store`, `"`, `"no-store`, "(no-store)", "/no-store", ";no-store", "@public", `\no-store`, "\u00e4no-store", "\x00no-store", "\x7fprivate", ":", "?=5",
	} {
		check(t, value, "")
		check(t, value+", max-age=5", map[bool]string{false: "MaxAge=5", true: ""}[value == `"` || value == `"no-store`])
	}
}

// Promises 22.1 and 22.2, directives with a number

func TestNumbers(t *testing.T) {
	for _, one := range numerics() {
		for text, want := range map[string]string{
			"0": "0", "1": "1", "5": "5", "60": "60", "007": "7", "00": "0", "31536000": "31536000",
			"2147483646": "2147483646", "2147483647": "2147483647", "2147483648": "2147483647", "4294967296": "2147483647", "4294967301": "2147483647",
			"9223372036854775807": "2147483647", "18446744073709551621": "2147483647", "99999999999999999999999999": "2147483647", "0000000000000000000000000000000000000000005": "5",
		} {
			want = one.field + "=" + want
			check(t, one.directive+"="+text, want)
			check(t, one.directive+`="`+text+`"`, want)
			check(t, one.directive+`="\`+text[:1]+text[1:]+`"`, want)
			check(t, one.directive+`="`+strings.ReplaceAll(text, "", `\`)[1:]+`"`, one.field+"="+one.wrong)
			check(t, " \t"+strings.ToUpper(one.directive)+"="+text+"\t", want)
		}
	}
}

func TestNumbersWithoutArgument(t *testing.T) {
	for _, one := range numerics() {
		want := one.field + "=" + one.bare
		check(t, one.directive, want)
		check(t, strings.ToUpper(one.directive), want)
		check(t, one.directive+"\t ", want)
		check(t, one.directive+",5", want)
		check(t, "x, "+one.directive+" ,=5", want)
	}
}

func TestNumbersWithMalformedArgument(t *testing.T) {
	for _, one := range numerics() {
		for _, rest := range malformed() {
			check(t, one.directive+rest, one.field+"="+one.wrong)
		}
	}
}

func TestNumbersWithOtherArguments(t *testing.T) {
	for _, one := range numerics() {
		for _, rest := range arguments() {
			check(t, one.directive+rest, one.field+"="+one.wrong)
		}
	}
}

// Every byte in an argument, in the middle and at its ends.
func TestEveryByteOfArguments(t *testing.T) {
	for b := range 256 {
		single := string([]byte{byte(b)})
		for _, one := range numerics() {
			number, wrong := one.field+"=15", one.field+"="+one.wrong
			want := wrong
			switch {
			case '0' <= b && b <= '9':
				check(t, one.directive+"="+single, one.field+"="+single)
				check(t, one.directive+"=1"+single+"5", one.field+"=1"+single+"5")
				check(t, one.directive+`="`+single+`5"`, one.field+"="+strings.TrimPrefix(single, "0")+"5")
				check(t, one.directive+`="\`+single+`"`, one.field+"="+single)
				continue
			case b == ',' || b == ' ' || b == '\t':
				want = number
			}
			check(t, one.directive+"=15"+single, want)
			check(t, one.directive+"=1"+single+"x", map[bool]string{false: wrong, true: one.field + "=1"}[b == ','])
			check(t, one.directive+"="+single, wrong)
			if b == '\\' {
				// The number follows a backslash, and a quoted string must end.
				check(t, one.directive+`="`+single+`15"`, number)
			} else {
				check(t, one.directive+`="`+single+`15"`, wrong)
			}
			check(t, one.directive+`="15`+single+`"`, wrong)
			check(t, one.directive+`="15\`+single+`"`, wrong)
		}
	}
}

// Different numbers are set one by one.
func TestSeveralNumbers(t *testing.T) {
	check(t, "max-age=1, s-maxage=2, min-fresh=3, max-stale=4", "MaxAge=1 SMaxAge=2 MinFresh=3 MaxStale=4")
	check(t, `max-stale="4",min-fresh=3 ,s-maxage="2",max-age=1`, "MaxAge=1 SMaxAge=2 MinFresh=3 MaxStale=4")
	check(t, "max-age, s-maxage, min-fresh, max-stale", "MaxAge=0 SMaxAge=0 MinFresh=2147483647 MaxStale=2147483647")
	check(t, "max-age=x, s-maxage=x, min-fresh=x, max-stale=x", "MaxAge=0 SMaxAge=0 MinFresh=2147483647 MaxStale=0")
	check(t, "no-store, s-maxage=2, private, max-stale", "NoStore Private SMaxAge=2 MaxStale=2147483647")
}

// Promise 22.1, the first one counts

func TestFirstNumberCounts(t *testing.T) {
	for _, one := range numerics() {
		follow := []string{"", "=5", `="6"`, "=0", "=x", "= 5", "=2147483647"}
		for _, rest := range []struct{ text, want string }{
			{"=60", "60"}, {`="60"`, "60"}, {"=0", "0"}, {"=2147483648", "2147483647"}, {"", one.bare}, {"=x", one.wrong}, {" =60", one.wrong}, {`="60`, one.wrong}, {`=""`, one.wrong},
		} {
			for _, other := range follow {
				first, second := one.directive+rest.text, strings.ToUpper(one.directive)+other
				want := one.field + "=" + rest.want
				checkFields(t, fields("Cache-Control: "+first, "Cache-Control: "+second), want)
				checkFields(t, fields("cache-control: x,"+first, "Pragma: y", "CACHE-CONTROL: "+second+","+one.directive+"=7"), want)
				if rest.text != `="60` {
					check(t, first+","+second, want)
					check(t, "public, "+first+", x, "+second+", "+second, "Public "+want)
				}
			}
		}
	}
}

// What is no directive, or another one, is no earlier one.
func TestFirstNumberBehindOthers(t *testing.T) {
	for _, one := range numerics() {
		want := one.field + "=5"
		for _, other := range []string{`"` + one.directive + `"=7`, "=" + one.directive, "x-" + one.directive + "=7", one.directive + "x=7", "x=" + one.directive, "x=7", "7", "no" + one.directive} {
			check(t, other+", "+one.directive+"=5", want)
		}
		checkFields(t, fields("Cache-Control2: "+one.directive+"=7", "Cache-Control: "+one.directive+"=5", "Cache: "+one.directive+"=8"), want)
	}
}

// Promise 22.1, members

// A comma within a quoted string does not end a member.
func TestQuotedCommas(t *testing.T) {
	check(t, `private="a, no-store, max-age=5"`, "Private")
	check(t, `x=",no-store,", max-age=5`, "MaxAge=5")
	check(t, `x="\", no-store, \"", public`, "Public")
	check(t, `x="\\", no-store`, "NoStore")
	check(t, `max-age="5,6", no-store`, "NoStore MaxAge=0")
	check(t, `"x, no-store", public`, "Public")
	// A quoted string that is not ended goes to the end of its field.
	check(t, `private="a, no-store`, "Private")
	check(t, `max-stale=", no-store, max-stale=5`, "MaxStale=0")
	checkFields(t, fields(`Cache-Control: private="a, no-cache`, "Cache-Control: no-store"), "NoStore Private")
	checkFields(t, fields(`Cache-Control: max-age="5`, `Cache-Control: ", max-age=6, no-store`), "MaxAge=0")
	// A backslash means nothing outside.
	check(t, `private=a\, no-store`, "NoStore Private")
	check(t, `x\", no-store, "\\, public`, "Public")
}

func TestSeveralFields(t *testing.T) {
	checkFields(t, fields("Cache-Control: max-age=5", "Host: no-store", "cache-control: public", "CACHE-CONTROL: s-maxage=6, private"), "Private Public MaxAge=5 SMaxAge=6")
	checkFields(t, fields("Cache-Control: ", "Cache-Control: ,", "Cache-Control: no-cache"), "NoCache")
	checkFields(t, fields("cAcHe-CoNtRoL: max-age=5,", "Cache-Control: , ,no-cache"), "NoCache MaxAge=5")
	// A directive does not go on in the next field.
	checkFields(t, fields("Cache-Control: max-age", "Cache-Control: =5"), "MaxAge=0")
	checkFields(t, fields("Cache-Control: no", "Cache-Control: -store"), "")
}

func TestOtherFields(t *testing.T) {
	checkFields(t, nil, "")
	checkFields(t, []api.Field{}, "")
	for _, name := range []string{"", "Cache", "Control", "CacheControl", "Cache_Control", "Cache-Control ", " Cache-Control", "Cache-Controls", "X-Cache-Control", "Expires", "Surrogate-Control", "CDN-Cache-Control", "\u212aache-Control", "Cache\u2010Control", "no-store", "max-age"} {
		l := []api.Field{{Name: name, Value: "no-store, no-cache, private, max-age=5, max-stale"}}
		checkFields(t, l, "")
		checkFields(t, append(l, fields("Cache-Control: max-age=6")...), "MaxAge=6")
	}
}

// Promise 22.2, many members

func TestManyMembers(t *testing.T) {
	for count := range 3 * api.MaxMembers {
		want := ""
		if count >= api.MaxMembers {
			want = "NoStore"
		}
		check(t, strings.Repeat("x,", count), want)
		check(t, strings.Repeat(` , "x"`, count), want)
		checkFields(t, slices.Repeat(fields("Cache-Control: x"), count), want)
		checkFields(t, append(fields("Cache-Control: "+strings.Repeat("x=5,", count/2), "Pragma: "+strings.Repeat("y,", 80)), fields("cache-control: "+strings.Repeat("y,", count-count/2))...), want)
	}
	// Empty members are none.
	check(t, strings.Repeat(" ,", 1000)+strings.Repeat("x,", api.MaxMembers-1), "")
	check(t, strings.Repeat("x,,\t,", api.MaxMembers-1), "")
	checkFields(t, slices.Repeat(fields("Cache-Control: ,"), 1000), "")
}

// The last member that is looked at is looked at, and no later one.
func TestLastMembers(t *testing.T) {
	for _, one := range append(flags(), flag{"max-age=5", "MaxAge=5"}, flag{"s-maxage=5", "SMaxAge=5"}, flag{"min-fresh=5", "MinFresh=5"}, flag{"max-stale=5", "MaxStale=5"}) {
		want := "NoStore " + one.field
		if one.field == "NoStore" {
			want = "NoStore"
		}
		check(t, strings.Repeat("x,", api.MaxMembers-2)+one.directive, one.field)
		check(t, strings.Repeat("x,", api.MaxMembers-1)+one.directive, want)
		check(t, strings.Repeat("x,", api.MaxMembers)+one.directive, "NoStore")
		check(t, one.directive+strings.Repeat(",x", api.MaxMembers-2), one.field)
		check(t, one.directive+strings.Repeat(",x", api.MaxMembers-1), want)
		check(t, one.directive+strings.Repeat(",x", api.MaxMembers), want)
		checkFields(t, append(slices.Repeat(fields("Cache-Control: x"), api.MaxMembers), fields("Cache-Control: "+one.directive)...), "NoStore")
	}
}

func TestLongDirectives(t *testing.T) {
	long := strings.Repeat("no-store", 20000)
	check(t, long, "")
	check(t, "no-cache="+long, "NoCache")
	check(t, "no-cache "+long, "NoCache")
	check(t, "no-cache="+long+" "+long, "NoCache")
	check(t, `no-cache="`+long+`", public`, "NoCache Public")
	for _, one := range numerics() {
		check(t, one.directive+"="+strings.Repeat("0", 100000)+"5", one.field+"=5")
		check(t, one.directive+"="+strings.Repeat("5", 100000), one.field+"=2147483647")
		check(t, one.directive+`="`+strings.Repeat(`\0`, 50000)+`5"`, one.field+"=5")
		check(t, one.directive+"="+strings.Repeat("5", 100000)+"x", one.field+"="+one.wrong)
		check(t, one.directive+"="+long, one.field+"="+one.wrong)
	}
	check(t, strings.Repeat("=", 100000), "")
	check(t, strings.Repeat("=", 100000)+"no-store", "")
}

// Numbers of absent directives are -1, and those that are set do not exceed 31 bits.
func TestFieldsOfControls(t *testing.T) {
	want := api.Control{MaxAge: -1, SMaxAge: -1, MinFresh: -1, MaxStale: -1}
	for _, l := range [][]api.Field{nil, fields("Host: a"), fields("Cache-Control: "), fields("Cache-Control: x")} {
		if one, other := cachecontrol.Response(l), cachecontrol.Request(l); one != want || other != want {
			t.Errorf("the controls of %s are %v and %v", shortened(l), one, other)
		}
	}
	all := fields("Cache-Control: no-store, no-cache, must-revalidate, proxy-revalidate, private, public, only-if-cached, max-age=1, s-maxage=2, min-fresh, max-stale")
	want = api.Control{
		NoStore: true, NoCache: true, MustRevalidate: true, ProxyRevalidate: true, Private: true, Public: true, OnlyIfCached: true,
		MaxAge: 1, SMaxAge: 2, MinFresh: math.MaxInt32, MaxStale: math.MaxInt32,
	}
	if one, other := cachecontrol.Response(all), cachecontrol.Request(all); one != want || other != want {
		t.Errorf("the controls of all directives are %v and %v", one, other)
	}
}

// Promise 22.3

func TestPragma(t *testing.T) {
	for _, value := range []string{"no-cache", "NO-CACHE", "No-caChe", " no-cache\t", "no-cache,", ",, no-cache ,", "x, no-cache", "no-cache, x", `x="a, b", no-cache, "y"`, "no-cache, no-cache"} {
		l := []api.Field{{Name: "Host", Value: "a"}, {Name: "Pragma", Value: value}}
		checkRequest(t, l, "NoCache")
		checkResponse(t, l, "")
	}
	for _, name := range []string{"pragma", "PRAGMA", "pRaGmA"} {
		l := []api.Field{{Name: name, Value: "no-cache"}}
		checkRequest(t, l, "NoCache")
		checkResponse(t, l, "")
	}
	checkRequest(t, fields("Pragma: ", "Pragma: x", "Host: a", "pragma: y, no-cache", "Pragma: z"), "NoCache")
}

// A member must be the text "no-cache", and nothing else.
func TestPragmaWithOtherMembers(t *testing.T) {
	for _, value := range []string{
		"", ",", "x", "no-store", "nocache", "no_cache", "no cache", "no-cach", "o-cache", "no-caches", "xno-cache", "no-cache-x", "no-cache x", "no-cache=", "no-cache=x", "no-cache=1", "no-cache;x",
		`"no-cache"`, `"no-cache`, `no-cache"`, `x="no-cache"`, `x=", no-cache, "`, `", no-cache`, `"\", no-cache"`, "=no-cache", "no-\u212aache", "no\u2010cache", "no-cache\x00", "\u00a0no-cache", "no-cache\u00a0", "no-cache\r\n",
		"max-age=5", "private, public, only-if-cached, max-stale", "must-revalidate",
	} {
		checkFields(t, []api.Field{{Name: "Pragma", Value: value}}, "")
		checkRequest(t, []api.Field{{Name: "Pragma", Value: value}, {Name: "Pragma", Value: "no-cache"}}, "NoCache")
	}
	checkFields(t, fields("Pragma: no", "Pragma: -cache", "Pragmas: no-cache", "X-Pragma: no-cache", "Pragm: no-cache", ": no-cache", "Pragma : no-cache", "no-cache: no-cache"), "")
}

func TestEveryByteOfPragma(t *testing.T) {
	const text = "no-cache"
	for b := range 256 {
		single := string([]byte{byte(b)})
		want := ""
		if b == ',' || b == ' ' || b == '\t' {
			want = "NoCache"
		}
		checkRequest(t, fields("Pragma: "+single+text), want)
		checkRequest(t, fields("Pragma: "+text+single), want)
		for place := range len(text) {
			changed, want := text[:place]+single+text[place+1:], ""
			if strings.EqualFold(changed, text) && b < 128 {
				want = "NoCache"
			}
			checkRequest(t, fields("Pragma: "+changed), want)
			checkResponse(t, fields("Pragma: "+changed), "")
		}
	}
}

// A field named Cache-Control makes Pragma meaningless, whatever it holds.
func TestPragmaBesideCacheControl(t *testing.T) {
	for _, value := range []string{"", ",", "x", "=", `"`, "max-age=5", "no-store", "public, max-stale", "NO", "\x00"} {
		for _, name := range []string{"Cache-Control", "cache-control", "CACHE-control"} {
			only := []api.Field{{Name: name, Value: value}}
			want := described(cachecontrol.Response(only))
			checkFields(t, append(fields("Pragma: no-cache"), only...), want)
			checkFields(t, append(only, fields("Host: a", "Pragma: no-cache", "pragma: no-cache")...), want)
		}
	}
	checkFields(t, fields("Pragma: x", "Cache-Control: no-cache", "Pragma: no-cache"), "NoCache")
	// Other fields do not.
	for _, name := range []string{"Cache-Contro", "Cache-Controls", "Cache-Control ", "CacheControl", "Control", "Cache", ""} {
		l := []api.Field{{Name: name, Value: "max-age=5"}, {Name: "Pragma", Value: "no-cache"}}
		checkRequest(t, l, "NoCache")
		checkResponse(t, l, "")
	}
}

// Many members of Pragma set nothing of themselves, and only the first ones are looked at.
func TestManyMembersOfPragma(t *testing.T) {
	for count := range 2 * api.MaxMembers {
		want := ""
		if count < api.MaxMembers {
			want = "NoCache"
		}
		checkFields(t, fields("Pragma: "+strings.Repeat("x,", count)), "")
		checkFields(t, slices.Repeat(fields("Pragma: x"), count), "")
		checkRequest(t, fields("Pragma: "+strings.Repeat("x,", count)+"no-cache"), want)
		checkRequest(t, append(slices.Repeat(fields("Pragma: x"), count), fields("Pragma: no-cache")...), want)
		checkRequest(t, fields("Pragma: no-cache"+strings.Repeat(",x", count)), "NoCache")
	}
	checkRequest(t, fields("Pragma: "+strings.Repeat(" ,", 1000)+"no-cache"), "NoCache")
	checkFields(t, fields("Pragma: "+strings.Repeat("no-cache", 10000)), "")
}

// The chapter's examples

func TestExamples(t *testing.T) {
	check(t, "max-age=60, max-age=5, no-store", "NoStore MaxAge=60")
	check(t, "max-age=x", "MaxAge=0")
}

// Rules R4 and R6

func TestRepeatedCalls(t *testing.T) {
	for range 100 {
		check(t, "max-age=60, no-store", "NoStore MaxAge=60")
		check(t, "max-age=5, private", "Private MaxAge=5")
		check(t, strings.Repeat("x,", api.MaxMembers), "NoStore")
		checkRequest(t, fields("Pragma: no-cache"), "NoCache")
		checkFields(t, nil, "")
	}
}

func TestResultsShareNoMemory(t *testing.T) {
	l := fields("Cache-Control: max-age=60, no-store")
	one := cachecontrol.Response(l)
	other := cachecontrol.Request(l)
	one.MaxAge, one.NoStore, l[0].Value = 7, false, "public"
	if got := described(other); got != "NoStore MaxAge=60" {
		t.Errorf("the result has become %q", got)
	}
	checkFields(t, l, "Public")
}
