package etag_test

import (
	"math/rand"
	"regexp"
	"slices"
	"strings"
	"testing"

	"variantproxy/api"
	"variantproxy/etag"
)

// The model reads the promises by expressions and calls no other package. The
// expressions see each byte of a string as the character with its number.
var (
	tagText = regexp.MustCompile(`\A(W/)?"([\x21\x23-\x7e\x{80}-\x{ff}]*)"\z`)
	// pieceText is a longest piece: bytes other than comma and double quote, and
	// quoted strings.
	pieceText = regexp.MustCompile(`(?s)([^",]|"([^"\\]|\\.)*("|\\?\z))+`)
	upperText = regexp.MustCompile(`[A-Z]`)
)

func bytesAsCharacters(s string) string {
	var characters []rune
	for i := range len(s) {
		characters = append(characters, rune(s[i]))
	}
	return string(characters)
}

func charactersAsBytes(s string) string {
	var all []byte
	for _, character := range s {
		all = append(all, byte(character))
	}
	return string(all)
}

func expectedLower(s string) string {
	return charactersAsBytes(upperText.ReplaceAllStringFunc(bytesAsCharacters(s), strings.ToLower))
}

func expectedTag(s string) (api.ETag, bool) {
	parts := tagText.FindStringSubmatch(bytesAsCharacters(s))
	if parts == nil {
		return api.ETag{}, false
	}
	return api.ETag{Weak: parts[1] != "", Tag: charactersAsBytes(parts[2])}, true
}

// expectedFormat writes an entity tag and asks whether it is read back.
func expectedFormat(e api.ETag) string {
	text := map[bool]string{false: "", true: "W/"}[e.Weak] + `"` + e.Tag + `"`
	if read, ok := expectedTag(text); !ok || read != e {
		return ""
	}
	return text
}

// expectedValues returns the values of the fields with this name.
func expectedValues(l []api.Field, name string) []string {
	var values []string
	for _, f := range l {
		if expectedLower(f.Name) == expectedLower(name) {
			values = append(values, f.Value)
		}
	}
	return values
}

// expectedMembers returns all members of these values.
func expectedMembers(values []string) []string {
	var members []string
	for _, value := range values {
		for _, piece := range pieceText.FindAllString(bytesAsCharacters(value), -1) {
			if member := strings.Trim(piece, " \t"); member != "" {
				members = append(members, charactersAsBytes(member))
			}
		}
	}
	return members
}

func expectedList(l []api.Field, name string) ([]api.ETag, bool, bool) {
	members := expectedMembers(expectedValues(l, name))
	if strings.Join(members, ",") == "*" {
		return nil, true, true
	}
	var tags []api.ETag
	for _, member := range members {
		if tag, ok := expectedTag(member); ok {
			tags = append(tags, tag)
		}
	}
	if len(tags) == 0 || len(tags) < len(members) || len(tags) >= api.MaxMembers {
		return nil, false, false
	}
	return tags, false, true
}

// checkTextAgainstModel compares Parse, and Format of the text as a Tag, with the model.
func checkTextAgainstModel(t *testing.T, s string) {
	t.Helper()
	if want, ok := expectedTag(s); ok {
		checkParse(t, s, want)
	} else {
		checkNoParse(t, s)
	}
	checkFormat(t, strong(s), expectedFormat(strong(s)))
	checkFormat(t, weak(s), expectedFormat(weak(s)))
}

// checkFieldsAgainstModel compares Of and List with the model.
func checkFieldsAgainstModel(t *testing.T, l []api.Field, name string) {
	t.Helper()
	values := append(expectedValues(l, "ETag"), "")
	if want, ok := expectedTag(values[0]); ok {
		checkOf(t, l, want)
	} else {
		checkNoneOf(t, l)
	}
	tags, star, ok := expectedList(l, name)
	checkResultsOfList(t, l, name, tags, star, ok)
}

func oneOf(random *rand.Rand, l []string) string {
	return l[random.Intn(len(l))]
}

// randomTag returns the text of an entity tag, which now and then has a wrong byte.
func randomTag(random *rand.Rand) string {
	var text strings.Builder
	for range random.Intn(4) {
		text.WriteString(oneOf(random, []string{"a", "B", ",", "*", "W/", "\x80", "\u00e4", "~", "!", "#", "0"}))
	}
	if random.Intn(6) == 0 {
		text.WriteString(oneOf(random, []string{`\`, `\`, `"`, " ", "\t", "\x7f", "\x00"}))
	}
	return oneOf(random, []string{"", "", "W/"}) + `"` + text.String() + `"`
}

// randomList returns a value, which seldom has members that are no entity tags.
func randomList(random *rand.Rand) string {
	var text strings.Builder
	count := random.Intn(5)
	switch random.Intn(12) {
	case 0:
		// Among so many random ones, there would nearly always be one that is malformed.
		text.WriteString(strings.Repeat(`"a",W/"b,",`, 30))
	case 1:
		return oneOf(random, []string{"*", " *", "*,", "*,*", "W/*", "*\t,,"})
	case 2:
		return oneOf(random, []string{"", ",", " , "})
	}
	for range count {
		text.WriteString(randomTag(random))
		text.WriteString(oneOf(random, []string{",", ", ", " ,", ",,", "\t,\t"}))
	}
	if random.Intn(10) == 0 {
		text.WriteString(oneOf(random, []string{`"`, "a", "*", ";", `\`}))
	}
	return text.String()
}

// randomName returns a name in any case.
func randomName(random *rand.Rand) string {
	name := oneOf(random, []string{"ETag", "If-None-Match", "If-None-Match", "If-Match", ""})
	switch random.Intn(3) {
	case 0:
		return strings.ToUpper(name)
	case 1:
		return strings.ToLower(name)
	}
	return name
}

func randomFields(random *rand.Rand) []api.Field {
	var l []api.Field
	for range random.Intn(6) {
		text := randomList(random)
		if random.Intn(3) == 0 {
			text = randomTag(random)
		}
		l = append(l, api.Field{Name: randomName(random), Value: text})
	}
	return l
}

func TestRandomTexts(t *testing.T) {
	random := rand.New(rand.NewSource(21))
	for range 50000 {
		checkTextAgainstModel(t, randomTag(random))
		checkTextAgainstModel(t, randomList(random))
		if t.Failed() {
			return
		}
	}
}

func TestRandomFields(t *testing.T) {
	random := rand.New(rand.NewSource(211))
	kinds := map[string]int{}
	for range 40000 {
		l, name := randomFields(random), randomName(random)
		checkFieldsAgainstModel(t, l, name)
		tags, star, ok := etag.List(l, name)
		switch {
		case star:
			kinds["star"]++
		case !ok:
			kinds["none"]++
		case len(tags) > 50:
			kinds["many"]++
		case len(tags) > 1:
			kinds["several"]++
		}
		if t.Failed() {
			return
		}
	}
	for _, kind := range []string{"star", "none", "many", "several"} {
		if kinds[kind] < 100 {
			t.Errorf("only %d of the lists are of the kind %q", kinds[kind], kind)
		}
	}
}

// sequences returns all texts of at most this length.
func sequences(alphabet string, length int) []string {
	texts := []string{""}
	for start := 0; len(texts[start]) < length; start++ {
		for i := range len(alphabet) {
			texts = append(texts, texts[start]+alphabet[i:i+1])
		}
	}
	return texts
}

func TestSequencesOfBytes(t *testing.T) {
	for _, text := range sequences("W/\"a\\ w", 5) {
		checkTextAgainstModel(t, text)
		checkTextAgainstModel(t, `W/`+text+`"`)
	}
}

// All sequences of a few bytes, in one field and cut into two.
func TestSequencesOfBytesInLists(t *testing.T) {
	for _, text := range sequences("a\",\\* ", 5) {
		half := len(text) / 2
		for _, around := range []string{"", `"`} {
			text := around + text + around
			checkFieldsAgainstModel(t, fields("If-None-Match: "+text), "if-none-match")
			checkFieldsAgainstModel(t, fields("If-None-Match: "+text[:half], "ETag: "+text, "If-None-Match: "+text[half:]), "If-None-Match")
		}
	}
}

// What is read of what is written is the same.
func TestParseOfFormat(t *testing.T) {
	random := rand.New(rand.NewSource(212))
	written := 0
	for range 20000 {
		e := api.ETag{Weak: random.Intn(2) == 0, Tag: randomList(random)}
		if read, ok := etag.Parse(etag.Format(e)); ok {
			written++
			if read != e {
				t.Errorf("%s is read as %s", described(e), described(read))
			}
		}
	}
	if written < 500 {
		t.Errorf("only %d of the entity tags are written", written)
	}
}

// Two texts are equal by Weak exactly if they differ at most in the mark of a weak entity
// tag, and by Strong exactly if they are the same and have no such mark.
func TestRandomComparison(t *testing.T) {
	random := rand.New(rand.NewSource(213))
	counts := map[[2]bool]int{}
	for range 50000 {
		one, other := randomTag(random), randomTag(random)
		a, oneOK := etag.Parse(one)
		b, otherOK := etag.Parse(other)
		if !oneOK || !otherOK {
			continue
		}
		wantStrong := one == other && one[0] == '"'
		wantWeak := strings.TrimPrefix(one, "W/") == strings.TrimPrefix(other, "W/")
		checkEqual(t, a, b, wantStrong, wantWeak)
		counts[[2]bool{wantStrong, wantWeak}]++
	}
	for _, results := range [][2]bool{{false, false}, {false, true}, {true, true}} {
		if counts[results] < 100 {
			t.Errorf("only %d comparisons have the results %v", counts[results], results)
		}
	}
}

// The members of a list, written one after the other, are the same list again.
func TestListOfFormattedList(t *testing.T) {
	random := rand.New(rand.NewSource(214))
	for range 10000 {
		tags, _, ok := etag.List(randomFields(random), "If-None-Match")
		// A quote behind a backslash does not end a quoted string of a list.
		endsInBackslash := func(e api.ETag) bool { return strings.HasSuffix(e.Tag, `\`) }
		if !ok || len(tags) == 0 || slices.ContainsFunc(tags, endsInBackslash) {
			continue
		}
		var texts []string
		for _, tag := range tags {
			texts = append(texts, etag.Format(tag))
		}
		checkList(t, fields("If-None-Match: "+strings.Join(texts, ",")), tags...)
	}
}
