package vary_test

import (
	"math/rand"
	"regexp"
	"slices"
	"strings"
	"testing"

	"variantproxy/api"
	"variantproxy/vary"
)

// The model reads the promises by expressions and calls no other package. The
// expressions see each byte of a string as the character with its number.
var (
	// pieceText is a longest piece: bytes other than comma and double quote, and
	// quoted strings.
	pieceText = regexp.MustCompile(`(?s)([^",]|"([^"\\]|\\.)*("|\\?\z))+`)
	tokenText = regexp.MustCompile("\\A[A-Za-z0-9!#$%&'*+\\-.^_`|~]+\\z")
	fourText  = regexp.MustCompile(`\A(accept|accept-language|accept-charset|accept-encoding)\z`)
	upperText = regexp.MustCompile(`[A-Z]`)
)

func bytesAsCharacters(s string) string {
	var characters []rune
	for i := range len(s) {
		characters = append(characters, rune(s[i]))
	}
	return string(characters)
}

func charactersAsBytes(s string) string {
	var all []byte
	for _, character := range s {
		all = append(all, byte(character))
	}
	return string(all)
}

func expectedLower(s string) string {
	return charactersAsBytes(upperText.ReplaceAllStringFunc(bytesAsCharacters(s), strings.ToLower))
}

// expectedValues returns the values of the fields with this name.
func expectedValues(name string, l []api.Field) []string {
	var values []string
	for _, f := range l {
		if expectedLower(f.Name) == expectedLower(name) {
			values = append(values, f.Value)
		}
	}
	return values
}

// expectedMembers returns all members of these values.
func expectedMembers(values []string) []string {
	var members []string
	for _, value := range values {
		for _, piece := range pieceText.FindAllString(bytesAsCharacters(value), -1) {
			if member := strings.Trim(piece, " \t"); member != "" {
				members = append(members, charactersAsBytes(member))
			}
		}
	}
	return members
}

// expectedNames inserts each name at its place.
func expectedNames(l []api.Field) ([]string, bool) {
	members := expectedMembers(expectedValues("Vary", l))
	if len(members) >= api.MaxMembers {
		return nil, false
	}
	var names []string
	for _, member := range members {
		if member == "*" || !tokenText.MatchString(bytesAsCharacters(member)) {
			return nil, false
		}
		place := 0
		for place < len(names) && names[place] < expectedLower(member) {
			place++
		}
		if place == len(names) || names[place] != expectedLower(member) {
			names = slices.Insert(names, place, expectedLower(member))
		}
	}
	return names, true
}

func expectedValue(name string, l []api.Field) string {
	values := expectedValues(name, l)
	members := expectedMembers(values)
	switch {
	case len(values) == 0:
		return ""
	case fourText.MatchString(expectedLower(name)) && len(members) < api.MaxMembers:
		return "=" + expectedLower(strings.Join(members, ", "))
	}
	return "=" + strings.Join(values, ", ")
}

// checkAgainstModel compares all functions with the model. The fields of a second
// request match the snapshot of the first one if it expects the same texts of them.
func checkAgainstModel(t *testing.T, names []string, l, other []api.Field) {
	t.Helper()
	if want, ok := expectedNames(l); ok {
		checkNames(t, l, want...)
	} else {
		checkNoNames(t, l)
	}
	var snapshot, ofOther []string
	for _, name := range names {
		snapshot = append(snapshot, expectedValue(name, l))
		ofOther = append(ofOther, expectedValue(name, other))
		checkValue(t, name, l, expectedValue(name, l))
	}
	checkSnapshot(t, names, l, snapshot...)
	checkMatch(t, slices.Equal(snapshot, ofOther), names, snapshot, other)
}

func oneOf(random *rand.Rand, l []string) string {
	return l[random.Intn(len(l))]
}

// randomName returns a name in any case.
func randomName(random *rand.Rand) string {
	name := oneOf(random, texts("Vary", "Vary", "Accept", "Accept", "Accept-Language", "Accept-Charset", "Accept-Encoding", "User-Agent", "DPR", "", "a B"))
	switch random.Intn(3) {
	case 0:
		return strings.ToUpper(name)
	case 1:
		return strings.ToLower(name)
	}
	return name
}

// randomText returns a value, of which the pieces seldom make up something that is no
// list of tokens.
func randomText(random *rand.Rand) string {
	pieces := texts(",", ",", ", ", " ,\t", "a", "A", "b", "B-c", "accept", "DPR", "9", "!", "~")
	if random.Intn(3) == 0 {
		pieces = append(pieces, " ", `"`, `\`, "*", ";", "\u00e4", "\xff", "\x00", "")
	}
	var text strings.Builder
	count := random.Intn(8)
	if random.Intn(8) == 0 {
		count += 100 + random.Intn(60)
	}
	for range count {
		text.WriteString(oneOf(random, pieces))
	}
	return text.String()
}

func randomFields(random *rand.Rand) []api.Field {
	var l []api.Field
	for range random.Intn(8) {
		l = append(l, api.Field{Name: randomName(random), Value: randomText(random)})
	}
	return l
}

// similarFields returns fields that often have the same texts as the given ones.
func similarFields(random *rand.Rand, l []api.Field) []api.Field {
	l = slices.Clone(l)
	for range random.Intn(3) {
		if len(l) == 0 {
			break
		}
		f := &l[random.Intn(len(l))]
		switch random.Intn(5) {
		case 0:
			f.Value = strings.ReplaceAll(f.Value, ",", " , ")
		case 1:
			f.Value = strings.ToUpper(f.Value)
		case 2:
			f.Value += ","
		case 3:
			f.Name = strings.ToUpper(f.Name)
		case 4:
			f.Value = randomText(random)
		}
	}
	return l
}

func TestRandomRequests(t *testing.T) {
	random := rand.New(rand.NewSource(19))
	for range 20000 {
		l := randomFields(random)
		var names []string
		for range random.Intn(5) {
			names = append(names, randomName(random))
		}
		checkAgainstModel(t, names, l, similarFields(random, l))
		if t.Failed() {
			return
		}
	}
}

// All sequences of a few bytes, in one field and cut into two.
func TestSequencesOfBytes(t *testing.T) {
	const alphabet = "aB,\"* "
	values := []string{""}
	for start := 0; len(values[start]) < 5; start++ {
		for i := range len(alphabet) {
			values = append(values, values[start]+alphabet[i:i+1])
		}
	}
	for _, value := range values {
		half := len(value) / 2
		one := fields("Vary: "+value, "Accept: "+value, "DPR: "+value)
		two := fields("Vary: "+value[:half], "Accept: "+value[:half], "DPR: "+value[:half], "Vary: "+value[half:], "Accept: "+value[half:], "DPR: "+value[half:])
		checkAgainstModel(t, texts("accept", "dpr", "vary"), one, two)
		checkAgainstModel(t, texts("accept", "dpr", "vary"), two, one)
		checkAgainstModel(t, texts("accept"), one, two)
	}
}

// What Names returns of what it has returned is the same.
func TestNamesOfNames(t *testing.T) {
	random := rand.New(rand.NewSource(191))
	found := 0
	for range 20000 {
		names, ok := vary.Names(randomFields(random))
		if ok && len(names) > 0 {
			found++
			checkNames(t, fields("Vary: "+strings.Join(names, ",")), names...)
		}
	}
	if found < 1000 {
		t.Errorf("only %d of the requests name fields", found)
	}
}
