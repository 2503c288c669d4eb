package accept_test

import (
	"math/rand"
	"slices"
	"strconv"
	"strings"
	"testing"

	"variantproxy/accept"
	"variantproxy/api"
)

// Promise 13.2

// fieldsOf returns the fields of a kind with these values.
func fieldsOf(kind int, values ...string) []api.Field {
	var l []api.Field
	for _, value := range values {
		l = append(l, api.Field{Name: fieldNames[kind], Value: value})
	}
	return l
}

func checkPrefs(t *testing.T, kind int, l []api.Field, want []api.Pref, wantOK bool) {
	t.Helper()
	before := slices.Clone(l)
	if got, ok := accept.Prefs(kind, l); !slices.Equal(got, want) || ok != wantOK {
		t.Errorf("Prefs(%d, %s) = %s, %v, not %s, %v", kind, shortened(l), shortened(got), ok, shortened(want), wantOK)
	}
	if !slices.Equal(l, before) {
		t.Errorf("Prefs has changed its argument to %s", shortened(l))
	}
}

// checkValue expects the preferences of the field with this value.
func checkValue(t *testing.T, kind int, value string, want ...api.Pref) {
	t.Helper()
	checkPrefs(t, kind, fieldsOf(kind, value), want, true)
}

// checkLeftOut expects that each member is left out, alone and among others.
func checkLeftOut(t *testing.T, kind int, members ...string) {
	t.Helper()
	first, last := "a", "b"
	if kind == api.KindAccept {
		first, last = "a/a", "b/b"
	}
	for _, member := range members {
		checkValue(t, kind, member)
		checkValue(t, kind, first+";q=0.1,"+member, api.Pref{Range: first, Q: 100})
		checkPrefs(t, kind, fieldsOf(kind, first, member, last), []api.Pref{{Range: first, Q: 1000}, {Range: last, Q: 1000}}, true)
	}
}

func TestPrefsOfLanguages(t *testing.T) {
	checkValue(t, api.KindLanguage, "da, en-gb;q=0.8, en;q=x", api.Pref{Range: "da", Q: 1000}, api.Pref{Range: "en-gb", Q: 800})
	checkValue(t, api.KindLanguage, "da, en-gb;q=0.8, en;q=0.7", api.Pref{Range: "da", Q: 1000}, api.Pref{Range: "en-gb", Q: 800}, api.Pref{Range: "en", Q: 700})
	checkValue(t, api.KindLanguage, "EN, *;q=0", api.Pref{Range: "en", Q: 1000}, api.Pref{Range: "*"})
	checkValue(t, api.KindLanguage, "ZH-Hant-x-ABC;q=1.0", api.Pref{Range: "zh-hant-x-abc", Q: 1000})
	checkValue(t, api.KindLanguage, "x-gzip, X-Compress", api.Pref{Range: "x-gzip", Q: 1000}, api.Pref{Range: "x-compress", Q: 1000})
	checkValue(t, api.KindLanguage, "abcdefgh-12345678", api.Pref{Range: "abcdefgh-12345678", Q: 1000})
	checkLeftOut(t, api.KindLanguage, "e1", "1", "en-", "-en", "en--gb", "abcdefghi", "en-123456789", "en_gb", "**", "*-gb", "en-*", "gzip!", "e.n", "en gb", `"en"`, "en/gb", "*/*", "\xe9", "en=gb")
}

func TestPrefsOfCharsets(t *testing.T) {
	checkValue(t, api.KindCharset, "UTF-8, ISO-8859-1;q=0.5, *;q=0.1", api.Pref{Range: "utf-8", Q: 1000}, api.Pref{Range: "iso-8859-1", Q: 500}, api.Pref{Range: "*", Q: 100})
	checkValue(t, api.KindCharset, "X-GZIP, x-compress", api.Pref{Range: "x-gzip", Q: 1000}, api.Pref{Range: "x-compress", Q: 1000})
	checkValue(t, api.KindCharset, "A!#$%&'*+-.^_`|~9;q=0", api.Pref{Range: "a!#$%&'*+-.^_`|~9"})
	checkValue(t, api.KindCharset, "**, 1, abcdefghi", api.Pref{Range: "**", Q: 1000}, api.Pref{Range: "1", Q: 1000}, api.Pref{Range: "abcdefghi", Q: 1000})
	checkLeftOut(t, api.KindCharset, "utf 8", "utf/8", "utf=8", `"utf-8"`, "(utf-8)", "utf:8", "*/*", "text/html", "\xe9", "\x7f", "\x00", "utf@8", "u[8]", "{u}")
}

func TestPrefsOfCodings(t *testing.T) {
	checkValue(t, api.KindCoding, "gzip;q=0.5, *;q=0", api.Pref{Range: "gzip", Q: 500}, api.Pref{Range: "*"})
	checkValue(t, api.KindCoding, "BR, X-GZIP;q=0.25, x-compress, compress, Identity;q=0", api.Pref{Range: "br", Q: 1000}, api.Pref{Range: "gzip", Q: 250}, api.Pref{Range: "compress", Q: 1000}, api.Pref{Range: "compress", Q: 1000}, api.Pref{Range: "identity"})
	checkValue(t, api.KindCoding, "**, 1, x-br", api.Pref{Range: "**", Q: 1000}, api.Pref{Range: "1", Q: 1000}, api.Pref{Range: "x-br", Q: 1000})
	checkLeftOut(t, api.KindCoding, "g zip", "x- gzip", "gzip/9", "gzip=9", `"gzip"`, "(gzip)", "*/*", "\xff", "\x7f", "\x00", "gzip@9")
}

func TestPrefsOfMediaTypes(t *testing.T) {
	checkValue(t, api.KindAccept, "text/*;q=0.3, text/html;q=0.7, text/html;level=1, */*;q=0.5", api.Pref{Range: "text/*", Q: 300}, api.Pref{Range: "text/html", Q: 700}, api.Pref{Range: "text/html;level=1", Q: 1000}, api.Pref{Range: "*/*", Q: 500})
	checkValue(t, api.KindAccept, "Text/HTML, IMAGE/*, */*", api.Pref{Range: "text/html", Q: 1000}, api.Pref{Range: "image/*", Q: 1000}, api.Pref{Range: "*/*", Q: 1000})
	checkValue(t, api.KindAccept, "**/a*", api.Pref{Range: "**/a*", Q: 1000})
	checkLeftOut(t, api.KindAccept, "*", "text", "text/", "/html", "/", "*/html", "text/html/x", "te xt/html", "text /html", "text/ html", `"text"/html`, `text/"html"`, "text/(html)", "text/h@l", "te@t/html", "t\xe9/html", "text/\x7f", "en", "gzip", "text/html=1")
}

// The names of parameters become lower case, their values stay, and what is no
// token is quoted.
func TestPrefsOfMediaTypesWithParameters(t *testing.T) {
	for member, want := range map[string]api.Pref{
		"text/html;Level=A;Q=0.5":               {Range: "text/html;level=A", Q: 500},
		"text/html;b=2;a=1;b=2":                 {Range: "text/html;b=2;a=1;b=2", Q: 1000},
		"Text/*;Level=1":                        {Range: "text/*;level=1", Q: 1000},
		"*/*;a=b;q=0":                           {Range: "*/*;a=b"},
		`a/b;c="d"`:                             {Range: "a/b;c=d", Q: 1000},
		`a/b;c="d e";q=0.1`:                     {Range: `a/b;c="d e"`, Q: 100},
		`a/b;c="d,e;q=0";q=0.1`:                 {Range: `a/b;c="d,e;q=0"`, Q: 100},
		`a/b;c="\d\"\\"`:                        {Range: `a/b;c="d\"\\"`, Q: 1000},
		`a/b;c=""`:                              {Range: `a/b;c=""`, Q: 1000},
		"a/b;c=\"\t\xff\"":                      {Range: "a/b;c=\"\t\xff\"", Q: 1000},
		"a/b ; c=d\t;\tq=0.1 ; ;":               {Range: "a/b;c=d", Q: 100},
		"a/b;;c=d;;q=0.1;;":                     {Range: "a/b;c=d", Q: 100},
		"a/b;qq=0.1":                            {Range: "a/b;qq=0.1", Q: 1000},
		"a/b;*=*;q=0.5":                         {Range: "a/b;*=*", Q: 500},
		"a/b;q=0.1;c=d":                         {Range: "a/b", Q: 100},
		"a/b;x=y;q=0.1;c=d":                     {Range: "a/b;x=y", Q: 100},
		"a/b;x=y;q=0.1;x=y;q=0.2":               {Range: "a/b;x=y", Q: 100},
		"a/b;x=q;y=\"q=0.1\"":                   {Range: `a/b;x=q;y="q=0.1"`, Q: 1000},
		`a/b;x=y;Q="0.12\3";z=""`:               {Range: "a/b;x=y", Q: 123},
		"*/*;a=1;b=2;c=3;d=4;e=5;f=6;q=0.999":   {Range: "*/*;a=1;b=2;c=3;d=4;e=5;f=6", Q: 999},
		"text/html;charset=UTF-8;q=1;level=x;q": {},
	} {
		if want == (api.Pref{}) {
			checkLeftOut(t, api.KindAccept, member)
		} else {
			checkValue(t, api.KindAccept, member, want)
		}
	}
}

// rangesOf returns texts that are ranges of a kind, as Prefs returns them.
func rangesOf(kind int) []string {
	if kind == api.KindAccept {
		return []string{"text/html", "text/*", "*/*"}
	}
	return []string{"abc", "x-y", "*"}
}

func TestPrefsOfQualities(t *testing.T) {
	for _, kind := range kinds {
		for _, r := range rangesOf(kind) {
			for text, q := range map[string]int{
				"0": 0, "0.": 0, "0.0": 0, "0.000": 0, "0.001": 1, "0.01": 10, "0.1": 100, "0.12": 120, "0.123": 123, "0.500": 500, "0.999": 999, "1": 1000, "1.": 1000, "1.0": 1000, "1.000": 1000,
				`"0.5"`: 500, `"\0\.\5"`: 500, `"1"`: 1000,
			} {
				checkValue(t, kind, r+";q="+text, api.Pref{Range: r, Q: q})
				checkValue(t, kind, strings.ToUpper(r)+" ; Q="+text+" ", api.Pref{Range: r, Q: q})
			}
			for _, text := range []string{"", "x", "2", "-1", "-0", "+1", "0.0000", "0.1234", "1.001", "1.0000", ".5", "00", "01", "10", "0:5", "0.5.5", "0.5x", "1e0", "0x1", "100%", `""`, `" 1"`, `"1 "`, `"x"`, `"0.5`, `0.5"`, "'0.5'", "\xb9", "*"} {
				checkLeftOut(t, kind, r+";q="+text)
			}
			checkLeftOut(t, kind, r+";q", r+";=0.5", r+"; q =0.5", r+";q= 0.5", r+" q=0.5", r+";q:0.5", r+";0.5")
		}
	}
}

// The first q says the quality, and what follows it is not looked at.
func TestPrefsOfTheFirstQuality(t *testing.T) {
	for _, kind := range kinds {
		for _, r := range rangesOf(kind) {
			for _, rest := range []string{";q=0.9", ";q=x", ";q=\"\"", ";Q=1;q=2", ";a=b", ";a=\"b,c;d\";e=f", ";", "; ; ", ";q=0.1;q=0.2;q=0.3"} {
				checkValue(t, kind, r+";q=0.5"+rest, api.Pref{Range: r, Q: 500})
				checkLeftOut(t, kind, r+";q=x"+rest)
			}
			// It must be well-formed, though.
			for _, rest := range []string{";a", ";a=", ";=b", ";a =b", ";a=b c", ";a=\"b", ";q", ";q=", ";\x00=a", ";a=\x7f"} {
				checkLeftOut(t, kind, r+";q=0.5"+rest)
			}
		}
	}
}

// Ranges of the kinds other than KindAccept have no parameters.
func TestPrefsOfParametersBesideTheQuality(t *testing.T) {
	for _, kind := range plainKinds {
		for _, r := range rangesOf(kind) {
			for _, params := range []string{";a=b", ";a=b;q=0.5", ";a=b;q=1", ";a=\"\";Q=0.5", ";a=b;c=d", ";qq=0.5", ";a=q", ";a=b;q=0.5;c=d", ";a=b;q=x", ";*=*"} {
				checkLeftOut(t, kind, r+params)
			}
			// Empty pieces are no parameters.
			for _, params := range []string{";", ";;", " ; ; ", "\t;\t"} {
				checkValue(t, kind, r+params, api.Pref{Range: r, Q: 1000})
				checkValue(t, kind, r+params+";q=0.5"+params, api.Pref{Range: r, Q: 500})
			}
		}
	}
	for params, want := range map[string]api.Pref{";a=b": {Range: "*/*;a=b", Q: 1000}, ";a=b;q=0.5": {Range: "*/*;a=b", Q: 500}, ";qq=0.5": {Range: "*/*;qq=0.5", Q: 1000}} {
		checkValue(t, api.KindAccept, "*/*"+params, want)
	}
}

func TestPrefsOfMembersWithoutValue(t *testing.T) {
	for _, kind := range kinds {
		checkLeftOut(t, kind, ";", ";q=1", " ; q=0.5", ";a=b", "q=1", "q=0.5;q=0.5", ";;", `""`, `" "`, `";q=1"`, "\x00", "\\")
	}
}

// Members keep their order, and equal ones are kept.
func TestPrefsOfManyMembers(t *testing.T) {
	for _, kind := range kinds {
		r := rangesOf(kind)
		checkValue(t, kind, r[2]+";q=0.1,"+r[0]+","+r[2]+";q=0.9,"+r[1]+";q=0,"+r[0],
			api.Pref{Range: r[2], Q: 100}, api.Pref{Range: r[0], Q: 1000}, api.Pref{Range: r[2], Q: 900}, api.Pref{Range: r[1]}, api.Pref{Range: r[0], Q: 1000})
		checkValue(t, kind, ", ,"+r[0]+"\t,,\t"+r[1]+" ,\t", api.Pref{Range: r[0], Q: 1000}, api.Pref{Range: r[1], Q: 1000})
		checkLeftOut(t, kind, `"`+r[0]+","+r[1]+`"`)
		// A quoted string that is not ended takes the rest of its field alone.
		checkPrefs(t, kind, fieldsOf(kind, r[0]+",\""+r[0]+","+r[0], r[1]), []api.Pref{{Range: r[0], Q: 1000}, {Range: r[1], Q: 1000}}, true)
	}
}

func TestPrefsOfSeveralFields(t *testing.T) {
	l := []api.Field{
		{Name: "ACCEPT-language", Value: "de"},
		{Name: "Accept", Value: "text/html;q=0.5"},
		{Name: "accept-encoding", Value: "gzip, x"},
		{Name: "Accept-Languages", Value: "xx"},
		{Name: "Accept-Language", Value: ""},
		{Name: "Accept-Charset", Value: "utf-8;q=0.1"},
		{Name: "accept-language", Value: "en;q=0.5, ,fr,!"},
		{Name: "", Value: "yy, y/y"},
		{Name: "AccepT", Value: "a/b;c=d,*"},
		{Name: "Content-Language", Value: "zz"},
		{Name: "Accept-LANGUAGE", Value: "\"it"},
		{Name: "Accept-Language", Value: "de;q=0.2"},
	}
	checkPrefs(t, api.KindAccept, l, []api.Pref{{Range: "text/html", Q: 500}, {Range: "a/b;c=d", Q: 1000}}, true)
	checkPrefs(t, api.KindLanguage, l, []api.Pref{{Range: "de", Q: 1000}, {Range: "en", Q: 500}, {Range: "fr", Q: 1000}, {Range: "de", Q: 200}}, true)
	checkPrefs(t, api.KindCharset, l, []api.Pref{{Range: "utf-8", Q: 100}}, true)
	checkPrefs(t, api.KindCoding, l, []api.Pref{{Range: "gzip", Q: 1000}, {Range: "x", Q: 1000}}, true)
	for _, kind := range otherKinds {
		checkPrefs(t, kind, l, nil, false)
	}
}

// There is a field also if it has no member, or none that is a preference.
func TestPrefsOfFieldsWithoutPreferences(t *testing.T) {
	for _, kind := range kinds {
		for _, value := range []string{"", " ", ",", " ,\t,", ";", "\x00", "a b", `"`, "*;q=2", "a/b;q=x, c;q=y"} {
			checkPrefs(t, kind, fieldsOf(kind, value), nil, true)
			checkPrefs(t, kind, fieldsOf(kind, value, value), nil, true)
		}
	}
}

func TestPrefsWithoutField(t *testing.T) {
	for _, kind := range append(slices.Clone(kinds), otherKinds...) {
		checkPrefs(t, kind, nil, nil, false)
		checkPrefs(t, kind, []api.Field{}, nil, false)
		for _, name := range []string{"", "*", "Host", "Accept-Ranges", "Accept ", " Accept", "Accept-Language:", "X-Accept-Encoding", "Accept_Charset"} {
			checkPrefs(t, kind, []api.Field{{Name: name, Value: "a, a/b"}}, nil, false)
		}
		for _, other := range kinds {
			if other != kind {
				checkPrefs(t, kind, fieldsOf(other, "*, */*"), nil, false)
			}
		}
	}
}

// membersFrom returns count different ranges of a kind, from a number on.
func membersFrom(kind, first, count int) []string {
	var members []string
	for i := first; i < first+count; i++ {
		member := "a-" + strconv.Itoa(i)
		if kind == api.KindAccept {
			member = "a/" + member
		}
		members = append(members, member)
	}
	return members
}

// prefsOf returns preferences for ranges, all with the quality 1000.
func prefsOf(ranges []string) []api.Pref {
	var l []api.Pref
	for _, r := range ranges {
		l = append(l, api.Pref{Range: r, Q: 1000})
	}
	return l
}

func TestPrefsOfTheGreatestNumberOfMembers(t *testing.T) {
	for _, kind := range kinds {
		for _, count := range []int{1, 63, 64, 65, 66, 128, 1000} {
			members := membersFrom(kind, 1, count)
			want := prefsOf(members[:min(count, 64)])
			checkValue(t, kind, strings.Join(members, ","), want...)
			checkPrefs(t, kind, fieldsOf(kind, members...), want, true)
			// Members that are left out count, too.
			checkPrefs(t, kind, fieldsOf(kind, "!;q=x", strings.Join(members, ", ")), want[:min(count, 63)], true)
			checkPrefs(t, kind, fieldsOf(kind, strings.Repeat("a b,", 60), strings.Join(members, ", ")), want[:min(count, 4)], true)
			// Empty pieces and other fields do not.
			checkPrefs(t, kind, append([]api.Field{{Name: "Vary", Value: strings.Join(members, ",")}}, fieldsOf(kind, strings.Repeat(" ,", 100), strings.Join(members, ",,"))...), want, true)
		}
	}
}

func TestPrefsOfLongFields(t *testing.T) {
	const count = 500000
	long := strings.Repeat("a", count)
	checkValue(t, api.KindAccept, strings.ToUpper(long+"/"+long)+";"+long+"="+long+";q=0.5", api.Pref{Range: long + "/" + long + ";" + long + "=" + long, Q: 500})
	checkValue(t, api.KindAccept, "a/b"+strings.Repeat(";c=d", count), api.Pref{Range: "a/b" + strings.Repeat(";c=d", count), Q: 1000})
	checkValue(t, api.KindLanguage, "A"+strings.Repeat("-B", count), api.Pref{Range: "a" + strings.Repeat("-b", count), Q: 1000})
	checkLeftOut(t, api.KindLanguage, long)
	for _, kind := range tokenKinds {
		checkValue(t, kind, strings.ToUpper(long)+strings.Repeat(";q=0.5", count), api.Pref{Range: long, Q: 500})
	}
	for _, kind := range kinds {
		checkValue(t, kind, strings.Repeat(",", count)+rangesOf(kind)[0], api.Pref{Range: rangesOf(kind)[0], Q: 1000})
		checkPrefs(t, kind, slices.Repeat(fieldsOf(kind, "?"), count), nil, true)
	}
}

// A range is judged by each kind as it must be, whatever bytes it has.
func TestPrefsOfEveryByte(t *testing.T) {
	for b := range 256 {
		for _, member := range []string{"%", "a%", "%a", "a-%", "a/%", "%/b", "a/b%", "a/%b", "%/*", "*/%", "a;q=%", "a;q=0%", "a;q=0.%", "a;%=0.5", "a;q%0.5", "a%q=0.5", "a;q=0.5;%=c", "a/b;c=%;q=0.5", "a/b;c=\"%\";q=0.5", "a/b;c=\"\\%\";q=0.5"} {
			value := strings.ReplaceAll(member, "%", single(b))
			for _, kind := range kinds {
				checkPrefs(t, kind, fieldsOf(kind, value), expectedPrefs(kind, value), true)
			}
		}
	}
}

func TestPrefsOfSequences(t *testing.T) {
	for _, value := range sequences(6, "a", "/", "*", ";q=", "0.5", ";B=\"C\"", ",") {
		for _, kind := range kinds {
			checkPrefs(t, kind, fieldsOf(kind, value), expectedPrefs(kind, value), true)
		}
	}
	for _, value := range sequences(4, "X-Gzip", "*/*", ";", " ", "q", "Q=1", "=", "0", "\"", "\\", "a/B") {
		for _, kind := range kinds {
			checkPrefs(t, kind, fieldsOf(kind, value), expectedPrefs(kind, value), true)
		}
	}
}

func TestPrefsOfOneByteChanges(t *testing.T) {
	for _, origin := range []string{
		"text/html;a=\"b,c\";q=0.5, */*;q=0",
		"da, en-gb;q=0.8, *",
		"X-Gzip;q=\"0.5\";c=d,identity ; q=1.0",
	} {
		for _, value := range changes(origin) {
			for _, kind := range kinds {
				checkPrefs(t, kind, fieldsOf(kind, value), expectedPrefs(kind, value), true)
			}
		}
	}
}

// Prefs reads back what Format writes of preferences that it has returned.
func TestPrefsReadsWhatFormatWrites(t *testing.T) {
	random := rand.New(rand.NewSource(13))
	pieces := map[int][]string{
		api.KindAccept:   {"a/b", "A/*", "*/*", "c/d;e=f", `c/d;E="f, g;q=0"`, `a/b;c="\"\\";d=""`},
		api.KindLanguage: {"de", "DE-ch", "*", "zh-Hant-x-abc"},
		api.KindCharset:  {"utf-8", "ISO-8859-1", "*", "x-gzip"},
		api.KindCoding:   {"gzip", "X-GZIP", "x-compress", "*", "identity"},
	}
	for _, kind := range kinds {
		for range 2000 {
			var members []string
			for range random.Intn(70) {
				member := pieces[kind][random.Intn(len(pieces[kind]))]
				if random.Intn(2) == 0 {
					member += ";q=0." + strconv.Itoa(random.Intn(1000))
				}
				members = append(members, member)
			}
			first, _ := accept.Prefs(kind, fieldsOf(kind, strings.Join(members, ",")))
			if len(first) != min(len(members), 64) {
				t.Fatalf("%d preferences from %q", len(first), members)
			}
			checkValue(t, kind, accept.Format(first), first...)
		}
	}
}
