package cachecontrol_test

import (
	"math/big"
	"math/rand"
	"regexp"
	"slices"
	"strings"
	"testing"

	"variantproxy/api"
	"variantproxy/cachecontrol"
)

// The model reads the promises by expressions and calls no other package. The
// expressions see each byte of a string as the character with its number.
var (
	// pieceText is a longest piece: bytes other than comma and double quote, and
	// quoted strings.
	pieceText     = regexp.MustCompile(`(?s)([^",]|"([^"\\]|\\.)*("|\\?\z))+`)
	directiveText = regexp.MustCompile(`(?s)\A([!#$%&'*+.^_\x60|~0-9A-Za-z-]+)(.*)\z`)
	argumentText  = regexp.MustCompile(`(?s)\A=(?:([!#$%&'*+.^_\x60|~0-9A-Za-z-]+)|"((?:[\t -!#-\[\]-~\x{80}-\x{ff}]|\\[\t -~\x{80}-\x{ff}])*)")\z`)
	escapedText   = regexp.MustCompile(`(?s)\\(.)`)
	numberText    = regexp.MustCompile(`\A[0-9]+\z`)
	upperText     = regexp.MustCompile(`[A-Z]`)
)

func bytesAsCharacters(s string) string {
	var characters []rune
	for i := range len(s) {
		characters = append(characters, rune(s[i]))
	}
	return string(characters)
}

func expectedLower(s string) string {
	return upperText.ReplaceAllStringFunc(bytesAsCharacters(s), strings.ToLower)
}

// expectedMembers returns the members that are looked at of the fields with this name, with
// their bytes as characters, and whether there is such a field.
func expectedMembers(l []api.Field, name string) ([]string, bool) {
	var members []string
	isThere := false
	for _, f := range l {
		if expectedLower(f.Name) != name {
			continue
		}
		isThere = true
		for _, piece := range pieceText.FindAllString(bytesAsCharacters(f.Value), -1) {
			if member := strings.Trim(piece, " \t"); member != "" {
				members = append(members, member)
			}
		}
	}
	return members[:min(len(members), 64)], isThere
}

// expectedNumber returns the number of an argument, in place of which bare stands if there
// is none, and wrong if it is no number.
func expectedNumber(rest string, bare, wrong int) int {
	if rest == "" {
		return bare
	}
	parts := argumentText.FindStringSubmatch(rest)
	if parts == nil {
		return wrong
	}
	text := parts[1] + escapedText.ReplaceAllString(parts[2], "$1")
	if !numberText.MatchString(text) {
		return wrong
	}
	number, _ := new(big.Int).SetString(text, 10)
	if number.Cmp(big.NewInt(2147483647)) > 0 {
		return 2147483647
	}
	return int(number.Int64())
}

// expectedDirectives returns what follows the name of the first directive with each name.
func expectedDirectives(members []string) map[string]string {
	directives := map[string]string{}
	slices.Reverse(members)
	for _, member := range members {
		if parts := directiveText.FindStringSubmatch(member); parts != nil {
			directives[expectedLower(parts[1])] = parts[2]
		}
	}
	return directives
}

func expectedResponse(l []api.Field) api.Control {
	members, _ := expectedMembers(l, "cache-control")
	directives := expectedDirectives(members)
	has := func(name string) bool {
		_, ok := directives[name]
		return ok
	}
	number := func(name string, bare, wrong int) int {
		if !has(name) {
			return -1
		}
		return expectedNumber(directives[name], bare, wrong)
	}
	const most = 2147483647
	return api.Control{
		NoStore: has("no-store") || len(members) == 64, NoCache: has("no-cache"), MustRevalidate: has("must-revalidate"), ProxyRevalidate: has("proxy-revalidate"),
		Private: has("private"), Public: has("public"), OnlyIfCached: has("only-if-cached"),
		MaxAge: number("max-age", 0, 0), SMaxAge: number("s-maxage", 0, 0), MinFresh: number("min-fresh", most, most), MaxStale: number("max-stale", most, 0),
	}
}

func expectedRequest(l []api.Field) api.Control {
	control := expectedResponse(l)
	pragmas, _ := expectedMembers(l, "pragma")
	if _, isThere := expectedMembers(l, "cache-control"); !isThere {
		control.NoCache = slices.ContainsFunc(pragmas, func(member string) bool { return expectedLower(member) == "no-cache" })
	}
	return control
}

// checkAgainstModel compares both functions with the model.
func checkAgainstModel(t *testing.T, l []api.Field) {
	t.Helper()
	checkResponse(t, l, described(expectedResponse(l)))
	checkRequest(t, l, described(expectedRequest(l)))
}

func oneOf(random *rand.Rand, l []string) string {
	return l[random.Intn(len(l))]
}

func randomName(random *rand.Rand) string {
	switch random.Intn(10) {
	case 0:
		return oneOf(random, []string{"max", "age", "no", "no-storex", "xno-store", "immutable", "max_age", "-", "5", "s-max-age", "n\u00f6-store", "\xffno-store", `"no-store`, "/public", ""})
	case 1, 2, 3, 4, 5:
		return numerics()[random.Intn(4)].directive
	}
	return flags()[random.Intn(7)].directive
}

func randomArgument(random *rand.Rand) string {
	number := oneOf(random, []string{"0", "5", "60", "007", "2147483646", "2147483647", "2147483648", "99999999999999999999", "x", "5x", "-5", "", " 5", `\5`, `\x`, "1.5", ",", "\x80", "\x00"})
	switch random.Intn(8) {
	case 0, 1, 2:
		return "=" + number
	case 3, 4:
		return `="` + number + `"`
	case 5:
		return oneOf(random, append(malformed(), arguments()...))
	}
	return ""
}

// randomCase changes the case of some letters.
func randomCase(random *rand.Rand, s string) string {
	changed := []byte(s)
	for i, b := range changed {
		if 'a' <= b && b <= 'z' && random.Intn(6) == 0 {
			changed[i] = b - 'a' + 'A'
		}
	}
	return string(changed)
}

func randomValue(random *rand.Rand) string {
	var text strings.Builder
	if random.Intn(25) == 0 {
		text.WriteString(strings.Repeat("x,", 58+random.Intn(8)))
	}
	for range random.Intn(6) {
		text.WriteString(randomCase(random, randomName(random)))
		text.WriteString(randomArgument(random))
		text.WriteString(oneOf(random, []string{",", ", ", " ,", ",,", "\t,\t", ",", ", ", "=", " ", ";", `"`}))
	}
	return text.String()
}

func randomFields(random *rand.Rand) []api.Field {
	names := []string{"Cache-Control", "Cache-Control", "Pragma", "Expires"}
	if random.Intn(4) == 0 {
		names = []string{"Pragma", "Expires", "Cache_Control"}
	}
	var l []api.Field
	for range random.Intn(5) {
		f := api.Field{Name: randomCase(random, oneOf(random, names)), Value: randomValue(random)}
		if f.Name[0]|' ' == 'p' && random.Intn(2) == 0 {
			f.Value = randomCase(random, oneOf(random, []string{"no-cache", " no-cache ", "x, no-cache", "no-cache, x", `"no-cache"`, "no-cache=x", "no-store"}))
		}
		l = append(l, f)
	}
	return l
}

func TestRandomFields(t *testing.T) {
	random := rand.New(rand.NewSource(22))
	counts := map[string]int{}
	for range 60000 {
		l := randomFields(random)
		checkAgainstModel(t, l)
		if t.Failed() {
			return
		}
		response, request := cachecontrol.Response(l), cachecontrol.Request(l)
		for _, part := range strings.Fields(described(response)) {
			counts[part]++
		}
		members, _ := expectedMembers(l, "cache-control")
		switch {
		case response != request:
			counts["pragma"]++
		case len(members) == 64:
			counts["many"]++
		case described(response) == "":
			counts["none"]++
		}
	}
	kinds := []string{"pragma", "many", "none"}
	for _, one := range flags() {
		kinds = append(kinds, one.field)
	}
	for _, one := range numerics() {
		kinds = append(kinds, one.field+"=0", one.field+"=5", one.field+"=7", one.field+"=60", one.field+"=2147483646", one.field+"=2147483647")
	}
	for _, kind := range kinds {
		if counts[kind] < 100 {
			t.Errorf("only %d of the controls are of the kind %q", counts[kind], kind)
		}
	}
}

// sequences returns all texts of at most this length.
func sequences(alphabet string, length int) []string {
	texts := []string{""}
	for start := 0; len(texts[start]) < length; start++ {
		for i := range len(alphabet) {
			texts = append(texts, texts[start]+alphabet[i:i+1])
		}
	}
	return texts
}

// All sequences of a few bytes behind a name.
func TestSequencesOfBytes(t *testing.T) {
	for _, text := range sequences("=\"5\\ x,", 5) {
		for _, name := range []string{"max-age", "min-fresh", "Max-Stale", "no-store"} {
			checkAgainstModel(t, fields("Cache-Control: "+name+text))
		}
		checkAgainstModel(t, fields("Cache-Control: S-MaxAge="+text+", s-maxage=6, public", "Pragma: no-cache"))
		checkAgainstModel(t, fields("Pragma: "+text+"no-cache"+text))
	}
}

// All sequences of a few directives, in one field and cut into two.
func TestSequencesOfDirectives(t *testing.T) {
	directives := []string{"max-age=1", "max-age", "MAX-AGE=x", "max-stale", "max-stale=2", "max-stale =3", "min-fresh=y", "min-fresh=4", "No-Store", "no-cache=5", "x", `"max-age=6"`, ""}
	for _, first := range directives {
		for _, second := range directives {
			for _, third := range directives {
				checkAgainstModel(t, fields("Cache-Control: "+first+","+second+", "+third))
				checkAgainstModel(t, fields("cache-control: "+first, "Pragma: no-cache", "Cache-Control: "+second+","+third))
			}
		}
	}
}

// A directive behind others changes nothing that they have set, but adds to it; and the
// order of directives with different names does not matter.
func TestOrderOfDirectives(t *testing.T) {
	random := rand.New(rand.NewSource(221))
	for range 20000 {
		var members []string
		names := map[string]bool{}
		for range random.Intn(8) {
			name, rest := randomName(random), randomArgument(random)
			if !names[name] && !strings.ContainsAny(name+rest, `",`) {
				names[name], members = true, append(members, name+rest)
			}
		}
		want := described(cachecontrol.Response(fields("Cache-Control: " + strings.Join(members, ","))))
		later := append(slices.Clone(members), members...)
		random.Shuffle(len(later)-len(members), func(i, j int) {
			later[len(members)+i], later[len(members)+j] = later[len(members)+j], later[len(members)+i]
		})
		check(t, strings.Join(later, ", "), want)
		random.Shuffle(len(members), func(i, j int) { members[i], members[j] = members[j], members[i] })
		check(t, strings.Join(members, " , "), want)
	}
}
