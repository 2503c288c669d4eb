package hop_test

import (
	"math/rand"
	"regexp"
	"slices"
	"strconv"
	"strings"
	"testing"

	"variantproxy/api"
	"variantproxy/hop"
)

// The model states the promise as expressions, and puts values of Connection together of
// which it knows the members, so that it reads none.

var (
	always = regexp.MustCompile(`^(connection|keep-alive|proxy-(connection|authenticate|authorization)|te|trailer|transfer-encoding|content-length|upgrade)$`)
	never  = regexp.MustCompile(`^(host|cache-control|vary|variants|variant-key|via)$`)
)

// expectedStrip returns the fields that are kept if these are the members of all fields named
// Connection.
func expectedStrip(l []api.Field, members []string) []api.Field {
	known := members[:min(len(members), api.MaxMembers)]
	var kept []api.Field
	for _, f := range l {
		name := lowered(f.Name)
		listed := slices.ContainsFunc(known, func(member string) bool { return lowered(member) == name })
		if never.MatchString(name) || !listed && !always.MatchString(name) {
			kept = append(kept, f)
		}
	}
	return kept
}

// modelNames are names of all kinds, of which each is a member of a list that consists of it.
func modelNames() []string {
	names := slices.Concat(hopFields(), protectedFields(), []string{"close", "X-a", "X-b", "Accept", "Age", "ETag", "0", "*"})
	names = append(names, "T", "Hos", "Hosts", "Vari", "Variant", "Cache", "Upgrades", "Content", "te-", "a b", "te host", "Via\tVary", "x;q=1", `"te"`, `"a,b"`, "\u00e4", "\xff\x00", "\u212aeep-Alive", "Ho\u017ft")
	return names
}

// pick returns one of the elements.
func pick(random *rand.Rand, elements []string) string {
	return elements[random.Intn(len(elements))]
}

// respelled returns a name in which the case of some letters is another one.
func respelled(random *rand.Rand, name string) string {
	switch random.Intn(4) {
	case 0:
		return name
	case 1:
		return lowered(name)
	}
	other := []byte(name)
	for i := range other {
		if random.Intn(2) == 0 {
			other[i] = swapped(name)[i]
		}
	}
	return string(other)
}

// separated returns a value with these members, among blanks and empty members.
func separated(random *rand.Rand, members []string) string {
	blanks := func() string { return pick(random, []string{"", "", " ", "\t", " \t "}) }
	var pieces []string
	for random.Intn(4) == 0 {
		pieces = append(pieces, blanks())
	}
	for _, member := range members {
		pieces = append(pieces, blanks()+member+blanks())
		for random.Intn(6) == 0 {
			pieces = append(pieces, blanks())
		}
	}
	return strings.Join(pieces, ",")
}

// randomFields returns fields and the members of all those named Connection.
func randomFields(random *rand.Rand, names []string) ([]api.Field, []string) {
	var l []api.Field
	var members []string
	most := 4
	if random.Intn(10) == 0 {
		most = 50
	}
	for range random.Intn(12) {
		f := api.Field{Name: respelled(random, pick(random, append(names, ""))), Value: pick(random, names)}
		var some []string
		switch {
		case random.Intn(5) == 0:
			for range random.Intn(most) {
				some = append(some, respelled(random, pick(random, names)))
			}
			f = api.Field{Name: respelled(random, "Connection"), Value: separated(random, some)}
		case lowered(f.Name) == "connection":
			some = []string{f.Value}
		}
		l, members = append(l, f), append(members, some...)
	}
	return l, members
}

func TestRandomFields(t *testing.T) {
	random := rand.New(rand.NewSource(25))
	names := modelNames()
	for range 100000 {
		// Of few names, many are both listed and there.
		some := names
		if random.Intn(2) == 0 {
			some = []string{pick(random, names), pick(random, names), pick(random, names), pick(random, names)}
		}
		l, members := randomFields(random, some)
		checkStrip(t, l, expectedStrip(l, members)...)
		minor := random.Intn(1<<20) >> random.Intn(20)
		checkVia(t, l, minor, some[0], "1."+strconv.Itoa(minor)+" "+some[0])
		checkVia(t, hop.Strip(l), -minor-1, some[1], "1.-"+strconv.Itoa(minor+1)+" "+some[1])
	}
}

// All names beside all members.
func TestPairsOfNames(t *testing.T) {
	for _, name := range modelNames() {
		for _, member := range modelNames() {
			// A field named Connection has the member that is its value.
			single := api.Field{Name: name, Value: member}
			var own []string
			if name == "Connection" {
				own = []string{member}
			}
			for _, value := range []string{member, swapped(member), lowered(member) + " ,"} {
				before := []api.Field{connection(value), single, {Name: member, Value: member}}
				checkStrip(t, before, expectedStrip(before, []string{member})...)
				behind := []api.Field{{Name: swapped(name), Value: member}, {Name: "Accept"}, {Name: "cONNECTION", Value: "0,\t" + value}}
				checkStrip(t, behind, expectedStrip(behind, []string{"0", member})...)
			}
			without := []api.Field{single, {Name: lowered(name), Value: member}}
			checkStrip(t, without, expectedStrip(without, own)...)
		}
	}
}
