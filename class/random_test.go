package class_test

import (
	"math/rand"
	"slices"
	"strings"
	"testing"

	"variantproxy/accept"
	"variantproxy/api"
	"variantproxy/class"
	"variantproxy/rank"
	"variantproxy/selection"
	"variantproxy/variants"
)

// fourNames are the names of the axes whose fields state preferences.
var fourNames = []string{"accept", "accept-language", "accept-charset", "accept-encoding"}

// allNames are the names of all axes of this file.
var allNames = []string{"accept", "accept-language", "accept-charset", "accept-encoding", "dpr"}

// available holds the values of these axes.
var available = map[string][]string{
	"accept":          {"text/html", "text/html;level=1", "text/html;level=1;a=b", "TEXT/Plain", "image/png", `a/b;c="d, \"e"`, "a/b; C=d"},
	"accept-language": {"EN", "de", "de-CH", "de-CH-1996", "x-y", "fr"},
	"accept-charset":  {"UTF-8", "iso-8859-1", "x-gzip", "gzip", "identity"},
	"accept-encoding": {"X-Gzip", "compress", "Identity", "br"},
	"dpr":             {"1", "2", "1, 2", "a b", `"`},
}

// members holds members that match some of these values, without a quality.
var members = map[string][]string{
	"accept":          {"*/*", "text/*", "text/html", "text/html;level=1", "text/html; level=1 ;a=b", "text/plain", "image/*", "a/*", "a/b", "a/b;c=d", `a/b;c="d, \"e"`},
	"accept-language": {"*", "en", "de", "de-ch", "de-ch-1996", "x", "x-y", "fr"},
	"accept-charset":  {"*", "utf-8", "iso-8859-1", "x-gzip", "gzip", "identity"},
	"accept-encoding": {"*", "gzip", "x-gzip", "compress", "x-compress", "identity", "br"},
	"dpr":             {"1", "2", "a b", `"1, 2"`},
}

// strangers holds members that match none of these values: some of them are malformed.
var strangers = map[string][]string{
	"accept":          {"video/*", "text/css", "text/html;level=2", "text/html;level=1;a=c;q=0", "*", "*/html", "text/html;q=2", "a/b;c", "a/b;c=d;q=", `"text/html"`},
	"accept-language": {"it", "en-GB;q=0", "d", "de-AT;q=0.7", "de_CH", "fr;q=1.5", "x-y-z", "en;level=1", "*-ch"},
	"accept-charset":  {"utf-7", "iso-8859-15;q=0", "utf-8;q=.5", "u tf-8", "compress", "*;a=b"},
	"accept-encoding": {"zstd", "deflate;q=0", "br;q=2", "g zip", "identity;a=b;q=0", "x-br"},
	"dpr":             {"3", "1;q=0.5"},
}

var qualities = []string{"", "", ";q=0", ";q=0.001", ";q=0.5", ";q=0.5", ";q=0.999", ";q=1"}

func oneOf[T any](random *rand.Rand, l []T) T {
	return l[random.Intn(len(l))]
}

func shuffled[T any](random *rand.Rand, l []T) []T {
	l = slices.Clone(l)
	random.Shuffle(len(l), func(i, j int) { l[i], l[j] = l[j], l[i] })
	return l
}

// randomAxes returns valid axes with some of these names.
func randomAxes(random *rand.Rand, names []string) []api.Axis {
	var axes []api.Axis
	for _, name := range shuffled(random, names)[:1+random.Intn(4)] {
		all := shuffled(random, available[name])
		axes = append(axes, axis(name, all[:1+random.Intn(len(all))]...))
	}
	return axes
}

// stated is what a request says: the members of its fields by their names, of which
// there are none in a field that stands there without one.
type stated map[string][]string

func randomRequest(random *rand.Rand) stated {
	s := stated{}
	for _, name := range allNames {
		if random.Intn(4) == 0 {
			continue
		}
		s[name] = nil
		for range random.Intn(5) {
			if random.Intn(6) == 0 {
				s[name] = append(s[name], oneOf(random, strangers[name]))
				continue
			}
			member := oneOf(random, members[name])
			if name != "dpr" {
				member += oneOf(random, qualities)
			}
			s[name] = append(s[name], member)
		}
	}
	return s
}

// fields writes a request with one line for each field.
func (s stated) fields() []api.Field {
	var l []api.Field
	for _, name := range allNames {
		if all, ok := s[name]; ok {
			l = append(l, api.Field{Name: name, Value: strings.Join(all, ", ")})
		}
	}
	return l
}

// rewritten writes a request with other blanks, in other lines and in another case, and
// with strangers between the members.
func (s stated) rewritten(random *rand.Rand) []api.Field {
	var l []api.Field
	blanks := []string{"", "", " ", "\t", " \t  "}
	for _, name := range shuffled(random, fourNames) {
		all, ok := s[name]
		if !ok {
			continue
		}
		value := oneOf(random, blanks)
		for _, member := range all {
			for random.Intn(4) == 0 {
				value += oneOf(random, strangers[name]) + oneOf(random, blanks) + "," + oneOf(random, blanks)
			}
			if random.Intn(2) == 0 {
				member = strings.ToUpper(member)
			}
			value += oneOf(random, blanks) + member + oneOf(random, blanks)
			if random.Intn(3) == 0 {
				l = append(l, api.Field{Name: strings.ToUpper(name), Value: value})
				value = ""
				continue
			}
			value += "," + oneOf(random, blanks)
		}
		l = append(l, api.Field{Name: name, Value: value})
	}
	return l
}

// expectedClass writes each axis with its ranked values as an axis of a field, of which
// there is none without a value.
func expectedClass(axes []api.Axis, l []api.Field, strict bool) string {
	var texts []string
	for _, a := range axes {
		text := a.Name + "=()"
		if ranked := selection.Ranked(a, l, strict); len(ranked) > 0 {
			text = variants.Format([]api.Axis{axis(a.Name, ranked...)})
		}
		texts = append(texts, text)
	}
	return strings.Join(texts, ", ")
}

// Promise 18.1

func TestClassesOfRandomRequests(t *testing.T) {
	random := rand.New(rand.NewSource(18))
	numbers := map[bool]int{}
	for range 6000 {
		axes := randomAxes(random, allNames)
		a, b := randomRequest(random).fields(), randomRequest(random).fields()
		for _, strict := range []bool{false, true} {
			classOfA, classOfB := expectedClass(axes, a, strict), expectedClass(axes, b, strict)
			checkClass(t, axes, a, strict, classOfA)
			checkSame(t, classOfA == classOfB, axes, a, b, strict)
			numbers[classOfA == classOfB]++
			if classOfA == classOfB && !slices.EqualFunc(selection.Keys(axes, a, strict), selection.Keys(axes, b, strict), slices.Equal[[]string]) {
				t.Errorf("%s and %s have one class, but not the same keys of %s", shortened(a), shortened(b), shortened(axes))
			}
		}
		if t.Failed() {
			t.FailNow()
		}
	}
	if numbers[true] < 500 || numbers[false] < 500 {
		t.Errorf("the requests have one class or not in %v cases", numbers)
	}
}

// The chapter's consequence for requests that are written differently.
func TestSameOfRandomRequestsThatAreWrittenDifferently(t *testing.T) {
	random := rand.New(rand.NewSource(181))
	for range 6000 {
		axes, s := randomAxes(random, fourNames), randomRequest(random)
		plain, rewritten := s.fields(), s.rewritten(random)
		for _, strict := range []bool{false, true} {
			checkSame(t, true, axes, plain, rewritten, strict)
			checkClass(t, axes, rewritten, strict, expectedClass(axes, plain, strict))
		}
		if t.Failed() {
			t.FailNow()
		}
	}
}

// Promise 18.2

// checkNormalized expects the fields without those of the kind and one at the end
// instead, from which the values get the qualities that they had.
func checkNormalized(t *testing.T, kind int, l []api.Field, values []string) {
	t.Helper()
	got, name := class.Normalize(kind, l, values), accept.Name(kind)
	prefs, present := accept.Prefs(kind, l)
	want := slices.DeleteFunc(slices.Clone(l), func(f api.Field) bool { return strings.EqualFold(f.Name, name) })
	if present {
		var texts []string
		for _, value := range values {
			texts = append(texts, accept.Format([]api.Pref{{Range: value, Q: rank.Quality(kind, prefs, true, value)}}))
		}
		want = append(want, api.Field{Name: name, Value: strings.Join(texts, ", ")})
	}
	if !slices.Equal(got, want) {
		t.Errorf("Normalize(%d, %s, %s) = %s, not %s", kind, shortened(l), shortened(values), shortened(got), shortened(want))
	}
	after, presentAfter := accept.Prefs(kind, got)
	for _, value := range values {
		if before := rank.Quality(kind, prefs, present, value); rank.Quality(kind, after, presentAfter, value) != before {
			t.Errorf("Normalize(%d, %s, %s) changes the quality %d of %q", kind, shortened(l), shortened(values), before, value)
		}
	}
	if again := class.Normalize(kind, got, values); !slices.Equal(again, got) {
		t.Errorf("Normalize(%d, %s, %s) = %s, and again %s", kind, shortened(l), shortened(values), shortened(got), shortened(again))
	}
}

// The chapter's consequence: the class is left as it is.
func TestNormalizeOfRandomRequests(t *testing.T) {
	random := rand.New(rand.NewSource(182))
	for range 6000 {
		axes, s := randomAxes(random, fourNames), randomRequest(random)
		plain := s.fields()
		for _, l := range [][]api.Field{plain, s.rewritten(random)} {
			for _, a := range axes {
				kind := accept.Kind(a.Name)
				checkNormalized(t, kind, l, a.Values)
				l = class.Normalize(kind, l, a.Values)
			}
			checkSame(t, true, axes, plain, l, false)
			checkSame(t, true, axes, plain, l, true)
		}
		if t.Failed() {
			t.FailNow()
		}
	}
}
