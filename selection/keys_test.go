package selection_test

import (
	"math/rand"
	"slices"
	"strconv"
	"strings"
	"testing"

	"variantproxy/api"
	"variantproxy/selection"
)

// checkKeys expects these keys, and of Best that it returns the first one.
func checkKeys(t *testing.T, axes []api.Axis, l []api.Field, strict bool, want ...[]string) {
	t.Helper()
	axesBefore, fieldsBefore := clone(axes), slices.Clone(l)
	if got := selection.Keys(axes, l, strict); !equalKeys(got, want) {
		t.Errorf("Keys(%s, %s, %v) = %s, not %s", shortened(axes), shortened(l), strict, shortened(got), shortened(want))
	}
	var wantBest []string
	if len(want) > 0 {
		wantBest = want[0]
	}
	if got, ok := selection.Best(axes, l, strict); !slices.Equal(got, wantBest) || ok != (len(want) > 0) {
		t.Errorf("Best(%s, %s, %v) = %s, %v, not %s", shortened(axes), shortened(l), strict, shortened(got), ok, shortened(wantBest))
	}
	if !equalAxes(axes, axesBefore) || !slices.Equal(l, fieldsBefore) {
		t.Errorf("Keys or Best has changed the arguments to %s, %s", shortened(axes), shortened(l))
	}
}

// checkKeysFound expects these keys, of which there are some without any choice by
// default, so that strict does not matter.
func checkKeysFound(t *testing.T, axes []api.Axis, l []api.Field, want ...[]string) {
	t.Helper()
	checkKeys(t, axes, l, false, want...)
	checkKeys(t, axes, l, true, want...)
}

// Promise 17.2

func TestExample(t *testing.T) {
	checkKeysFound(t, exampleAxes(), request("Accept-Language: fr;q=0.5, en"), key("en", "gzip"), key("en", "identity"), key("fr", "gzip"), key("fr", "identity"))
}

// The first example of the document.
func TestExampleOfOneAxis(t *testing.T) {
	languages := []api.Axis{axis("accept-language", "en", "fr")}
	checkKeysFound(t, languages, request("Accept-Language: EN, fr;q=0.5"), key("en"), key("fr"))
	checkKeysFound(t, languages, request("Accept-Language: fr"), key("fr"))
}

func TestKeys(t *testing.T) {
	checkKeysFound(t, exampleAxes(), nil, key("en", "gzip"), key("en", "identity"), key("fr", "gzip"), key("fr", "identity"))
	checkKeysFound(t, exampleAxes(), request("Accept-Language: fr, en;q=0.1", "Accept-Encoding: identity, gzip;q=0.9"), key("fr", "identity"), key("fr", "gzip"), key("en", "identity"), key("en", "gzip"))
	checkKeysFound(t, exampleAxes(), request("Accept-Encoding: gzip;q=0"), key("en", "identity"), key("fr", "identity"))
	checkKeysFound(t, exampleAxes(), request("Accept-Language: FR"), key("fr", "gzip"), key("fr", "identity"))
	checkKeysFound(t, exampleAxes(), request("Accept-Language: FR", "accept-encoding: x-gzip, identity;q=0"), key("fr", "gzip"))
	mixed := []api.Axis{axis("dpr", "1", "2"), axis("accept", "a/b", "a/c"), axis("accept-charset", "c", "d"), axis("width", "1", "2")}
	checkKeysFound(t, mixed, request("Width: 1", "DPR: 2", "Accept-Charset: d, c;q=0.5", "Accept: a/c, */*;q=0.1"),
		key("2", "a/c", "d", "1"), key("2", "a/c", "c", "1"), key("2", "a/b", "d", "1"), key("2", "a/b", "c", "1"))
}

// The first axis counts most, whatever the qualities are.
func TestKeysInLexicographicOrder(t *testing.T) {
	axes := []api.Axis{axis("accept-language", "a", "b"), axis("accept-charset", "c", "d", "e"), axis("accept-encoding", "f", "g")}
	l := request("Accept-Language: b, a;q=0.999", "Accept-Charset: d, c;q=0.002, e;q=0.001", "Accept-Encoding: g, f;q=0.001")
	checkKeysFound(t, axes, l,
		key("b", "d", "g"), key("b", "d", "f"), key("b", "c", "g"), key("b", "c", "f"), key("b", "e", "g"), key("b", "e", "f"),
		key("a", "d", "g"), key("a", "d", "f"), key("a", "c", "g"), key("a", "c", "f"), key("a", "e", "g"), key("a", "e", "f"))
	slices.Reverse(axes)
	checkKeysFound(t, axes, l,
		key("g", "d", "b"), key("g", "d", "a"), key("g", "c", "b"), key("g", "c", "a"), key("g", "e", "b"), key("g", "e", "a"),
		key("f", "d", "b"), key("f", "d", "a"), key("f", "c", "b"), key("f", "c", "a"), key("f", "e", "b"), key("f", "e", "a"))
}

// An axis with one acceptable value leaves the number of keys as it is.
func TestKeysOfAxesWithOneValue(t *testing.T) {
	one, two := axis("accept-charset", "x"), axis("accept-language", "a", "b")
	other := axis("dpr", "y", "z")
	l := request("DPR: z")
	checkKeysFound(t, []api.Axis{one}, l, key("x"))
	checkKeysFound(t, []api.Axis{one, two, other}, l, key("x", "a", "z"), key("x", "b", "z"))
	checkKeysFound(t, []api.Axis{two, one, other}, l, key("a", "x", "z"), key("b", "x", "z"))
	checkKeysFound(t, []api.Axis{other, one, two}, l, key("z", "x", "a"), key("z", "x", "b"))
	checkKeysFound(t, []api.Axis{other, one}, l, key("z", "x"))
}

// If strict is false, an axis without an acceptable value has its first value, and the
// other axes have what the request accepts; otherwise there is no key.
func TestKeysWithoutAcceptableValue(t *testing.T) {
	axes := []api.Axis{axis("accept-language", "en", "fr"), axis("dpr", "1", "2"), axis("accept-encoding", "gzip", "identity")}
	for _, test := range []struct {
		l    []api.Field
		want [][]string
	}{
		{request("Accept-Language: it", "DPR: 2"), [][]string{key("en", "2", "gzip"), key("en", "2", "identity")}},
		{request("Accept-Language: fr"), [][]string{key("fr", "1", "gzip"), key("fr", "1", "identity")}},
		{request("DPR: 2", "Accept-Encoding: *;q=0"), [][]string{key("en", "2", "gzip"), key("fr", "2", "gzip")}},
		{request("Accept-Language: *;q=0", "Accept-Encoding: *;q=0"), [][]string{key("en", "1", "gzip")}},
		{nil, [][]string{key("en", "1", "gzip"), key("en", "1", "identity"), key("fr", "1", "gzip"), key("fr", "1", "identity")}},
	} {
		checkKeys(t, axes, test.l, false, test.want...)
		checkKeys(t, axes, test.l, true)
	}
	checkKeysFound(t, axes, request("Accept-Language: fr", "DPR: 2", "Accept-Encoding: gzip, identity;q=0"), key("fr", "2", "gzip"))
	checkKeys(t, exampleAxes(), request("Accept-Language: de"), false, key("en", "gzip"), key("en", "identity"))
	checkKeys(t, exampleAxes(), request("Accept-Language: de"), true)
}

// There are at most MaxKeys keys.
func TestKeysByTheirNumber(t *testing.T) {
	for _, counts := range [][]int{
		{1}, {16}, {1, 1, 1, 1}, {16, 4}, {4, 16}, {8, 8}, {4, 4, 4}, {2, 2, 2, 8}, {8, 2, 2, 2}, {16, 1, 4, 1}, {9, 7}, {7, 9}, {3, 7, 3}, // up to 63 or 64
		{5, 13}, {13, 5}, {16, 5}, {5, 16}, {9, 8}, {16, 16}, {3, 11, 2}, {2, 3, 11}, {11, 2, 3}, {16, 16, 1}, {1, 16, 16}, {1, 5, 1, 13}, // from 65
		{16, 16, 16, 16}, {1, 16, 16, 16}, {16, 16, 16, 1}, {2, 2, 2, 16}, {16, 2, 2, 2}, {2, 1, 16, 16},
	} {
		names := []string{"accept-language", "accept-charset", "accept", "accept-encoding"}
		var axes []api.Axis
		var ranked [][]string
		for i, count := range counts {
			before := ""
			if names[i] == "accept" {
				before = "a/"
			}
			axes = append(axes, axis(names[i], numbered(before, count)...))
			ranked = append(ranked, numbered(before, count))
		}
		want := expectedKeys(ranked)
		product := 1
		for _, count := range counts {
			product *= count
		}
		if len(want) != min(product, 64) {
			t.Fatalf("the model returns %d keys for %v", len(want), counts)
		}
		checkKeysFound(t, axes, nil, want...)
	}
}

// The keys that are left out are the last ones.
func TestKeysBeyondTheLimit(t *testing.T) {
	axes := []api.Axis{axis("accept-language", numbered("", 16)...), axis("accept-encoding", numbered("", 16)...)}
	var want [][]string
	for first := range 4 {
		for second := range 16 {
			want = append(want, key("v-"+strconv.Itoa(first), "v-"+strconv.Itoa(second)))
		}
	}
	checkKeysFound(t, axes, nil, want...)
	// With 13 acceptable codings, the last language has only 12 of its keys.
	var preferred []string
	for i := range 16 {
		preferred = append(preferred, "v-"+strconv.Itoa(15-i)+";q=0."+strconv.Itoa(99-i))
	}
	for i := range want {
		want[i] = key("v-"+strconv.Itoa(15-i/13), "v-"+strconv.Itoa(i%13))
	}
	checkKeysFound(t, axes, request("Accept-Language: "+strings.Join(preferred, ","), "Accept-Encoding: *, v-13;q=0, v-14;q=0, v-15;q=0"), want...)
}

// invalidLists returns lists of axes of which each one is valid, but not all together.
func invalidLists() [][]api.Axis {
	five := []api.Axis{axis("a", "1"), axis("b", "1"), axis("c", "1"), axis("d", "1"), axis("e", "1")}
	return [][]api.Axis{
		nil,
		{},
		five,
		slices.Repeat(five, 1000),
		{axis("a", "1"), axis("a", "1")},
		{axis("a", "1"), axis("b", "1"), axis("a", "2")},
		{axis("accept-language", "en"), axis("accept-language", "fr")},
		{axis("accept-language", "en"), axis("accept-encoding", "gzip"), axis("dpr", "1"), axis("accept-encoding", "br")},
	}
}

func TestKeysOfAxesThatAreNotValid(t *testing.T) {
	lists := invalidLists()
	for _, a := range invalidAxes() {
		lists = append(lists, []api.Axis{a}, []api.Axis{a, axis("x", "1")}, []api.Axis{axis("x", "1"), a}, []api.Axis{axis("x", "1"), a, axis("accept-charset", "utf-7")})
	}
	lists = append(lists, []api.Axis{axis("accept-charset", "utf-7"), axis("accept-charset", "*")})
	for _, axes := range lists {
		for _, l := range [][]api.Field{nil, request("x: 1", "a: 1", "dpr: 1"), request("Accept-Language: en", "Accept-Encoding: *;q=0", "Accept: */*")} {
			checkKeys(t, axes, l, false)
			checkKeys(t, axes, l, true)
		}
	}
}

func TestKeysOfFourAxes(t *testing.T) {
	four := []api.Axis{axis("a", "1"), axis("b", "1"), axis("c", "1"), axis("d", "1")}
	for count := 1; count <= 4; count++ {
		checkKeysFound(t, four[:count], request("a: 1", "b: 1", "c: 1", "d: 1"), slices.Repeat(key("1"), count))
		checkKeys(t, four[:count], nil, false, slices.Repeat(key("1"), count))
	}
}

// Promises 17.1 and 17.2, against the model

// stated is what a request says about an axis: nil if it has no such field.
type stated map[string]*[]choice

// fieldsOf writes the fields with these members. The function splits tells whether the
// next member begins another field line.
func fieldsOf(s stated, separator string, splits func() bool) []api.Field {
	var l []api.Field
	for _, name := range modelNames {
		if s[name] == nil {
			continue
		}
		value := ""
		for i, c := range *s[name] {
			if i > 0 && splits() {
				l = append(l, api.Field{Name: strings.ToUpper(name), Value: value})
				value = c.text
				continue
			}
			if i > 0 {
				value += separator
			}
			value += c.text
		}
		l = append(l, api.Field{Name: name, Value: value})
	}
	return l
}

// checkAsModel compares all functions with the model.
func checkAsModel(t *testing.T, axes []api.Axis, s stated, l []api.Field) {
	t.Helper()
	for _, strict := range []bool{false, true} {
		var all [][]string
		for _, a := range axes {
			values := expectedRanked(a, s[a.Name], strict)
			checkRanked(t, a, l, strict, values...)
			all = append(all, values)
		}
		want := expectedKeys(all)
		checkKeys(t, axes, l, strict, want...)
		checkConsequences(t, axes, l, strict)
	}
	if t.Failed() {
		t.FailNow()
	}
}

// checkConsequences expects what the chapter says to follow for valid axes.
func checkConsequences(t *testing.T, axes []api.Axis, l []api.Field, strict bool) {
	t.Helper()
	_, ok := selection.Best(axes, l, strict)
	unacceptable := slices.ContainsFunc(axes, func(a api.Axis) bool { return len(selection.Ranked(a, l, true)) == 0 })
	if ok != (!strict || !unacceptable) {
		t.Errorf("Best(%s, %s, %v) returns %v", shortened(axes), shortened(l), strict, ok)
	}
}

func never() bool {
	return false
}

func TestAllShortListsOfMembers(t *testing.T) {
	for _, name := range modelNames {
		whole := []api.Axis{axis(name, modelValues[name]...)}
		lists := [][]choice{nil}
		for range 4 {
			for _, members := range lists {
				s := stated{name: &members}
				checkAsModel(t, whole, s, fieldsOf(s, ",", never))
			}
			lists = longer(lists, choices[name])
		}
		checkAsModel(t, whole, nil, nil)
	}
}

// longer returns each list with each member behind it.
func longer(lists [][]choice, members []choice) [][]choice {
	var all [][]choice
	for _, list := range lists {
		for _, c := range members {
			all = append(all, append(slices.Clone(list), c))
		}
	}
	return all
}

// randomAxes returns valid axes with the values of the model.
func randomAxes(random *rand.Rand) []api.Axis {
	names := slices.Clone(modelNames)
	random.Shuffle(len(names), func(i, j int) { names[i], names[j] = names[j], names[i] })
	var axes []api.Axis
	for _, name := range names[:1+random.Intn(4)] {
		values := slices.Clone(modelValues[name])
		random.Shuffle(len(values), func(i, j int) { values[i], values[j] = values[j], values[i] })
		axes = append(axes, axis(name, values[:1+random.Intn(len(values))]...))
	}
	return axes
}

// randomRequest returns what a request says about all fields of the model.
func randomRequest(random *rand.Rand) stated {
	s := stated{}
	for _, name := range modelNames {
		if random.Intn(3) == 0 {
			continue
		}
		var members []choice
		count := random.Intn(5)
		if random.Intn(10) == 0 {
			count = 60 + random.Intn(10)
		}
		// Of many members most are equal, so that the last ones can matter.
		for i := range count {
			if i > 1 && i < 58 {
				members = append(members, members[i-1])
				continue
			}
			members = append(members, choices[name][random.Intn(len(choices[name]))])
		}
		s[name] = &members
	}
	return s
}

func TestRandomRequests(t *testing.T) {
	random := rand.New(rand.NewSource(17))
	for range 20000 {
		axes, s := randomAxes(random), randomRequest(random)
		separator := []string{",", ", ", "\t,\t", ",, ,"}[random.Intn(4)]
		checkAsModel(t, axes, s, fieldsOf(s, separator, func() bool { return random.Intn(4) == 0 }))
	}
}

// Rules R4 and R6

func TestKeysShareNoMemory(t *testing.T) {
	for _, l := range [][]api.Field{nil, request("Accept-Language: it"), request("Accept-Language: fr, en")} {
		axes := exampleAxes()
		first, second := selection.Keys(axes, l, false), selection.Keys(axes, l, false)
		best, _ := selection.Best(axes, l, false)
		want, wantBest := slices.Clone(second), slices.Clone(best)
		for i := range want {
			want[i] = slices.Clone(want[i])
		}
		for i := range second {
			_ = append(second[i], "changed")
		}
		for i := range first {
			_ = append(first[i][:0], slices.Repeat([]string{"changed"}, cap(first[i]))...)
			first[i] = nil
		}
		for i := range axes {
			axes[i].Values[0], axes[i].Values[1] = "x", "y"
		}
		if !equalKeys(second, want) || !slices.Equal(best, wantBest) {
			t.Errorf("a change has changed the results to %s and %s", shortened(second), shortened(best))
		}
		// A change of one key leaves the others as they are.
		for i := range second[0] {
			second[0][i] = "changed"
		}
		if !equalKeys(second[1:], want[1:]) {
			t.Errorf("a change of the first key has changed others to %s", shortened(second[1:]))
		}
		best[0] = "changed"
		checkKeys(t, exampleAxes(), l, false, want...)
	}
}

// A call does not depend on the calls before.
func TestKeysOfRepeatedCalls(t *testing.T) {
	for range 100 {
		checkKeysFound(t, exampleAxes(), request("Accept-Language: fr", "Accept-Encoding: gzip"), key("fr", "gzip"), key("fr", "identity"))
		checkKeys(t, exampleAxes(), request("Accept-Language: it", "Accept-Encoding: *;q=0"), true)
		checkKeys(t, exampleAxes(), request("Accept-Language: it", "Accept-Encoding: *;q=0"), false, key("en", "gzip"))
		checkKeys(t, nil, nil, false)
	}
}
