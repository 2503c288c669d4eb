package entry_test

import (
	"fmt"
	"math/rand"
	"regexp"
	"slices"
	"strings"
	"testing"

	"variantproxy/api"
	"variantproxy/entry"
)

// The model puts responses together from parts of which it knows what they mean, so that it
// reads no field.

// value is a value of an axis, and other ways to write it in a key.
type value struct {
	text      string
	spellings []string
}

// knownAxis is an axis and the way to write it.
type knownAxis struct {
	name, written string
	values        []value
}

func knownAxes() []knownAxis {
	return []knownAxis{
		{"accept-language", "Accept-Language=(en fr)", []value{{"en", []string{"en", "EN", `"En"`}}, {"fr", []string{"fr", "fR"}}}},
		{"accept-encoding", "accept-encoding=( gzip  identity )", []value{{"gzip", []string{"gzip", "x-gzip", "X-GZIP"}}, {"identity", []string{"identity", "Identity"}}}},
		{"dpr", "DPR=(1 2)", []value{{"1", []string{"1", `"1"`}}, {"2", []string{"2"}}}},
		{"x", `X=("a, b" B)`, []value{{"a, b", []string{`"a, b"`, `"\a, b"`}}, {"B", []string{"B", `"B"`}}}},
		{"y", "y=(one)", []value{{"one", []string{"one"}}}},
	}
}

// pick returns one of the elements.
func pick[T any](random *rand.Rand, elements []T) T {
	return elements[random.Intn(len(elements))]
}

// oneIn is true once in n times.
func oneIn(random *rand.Rand, n int) bool {
	return random.Intn(n) == 0
}

// spread returns the members as values of fields with this name, of which there is at least
// one if there are members.
func spread(random *rand.Rand, name string, members []string) []api.Field {
	var l []api.Field
	for i, member := range members {
		if i == 0 || oneIn(random, 4) {
			l = append(l, api.Field{Name: respelled(random, name), Value: pick(random, []string{"", " ", ", ,"})})
			member = "," + member
		}
		l[len(l)-1].Value += pick(random, []string{", ", ",", " ,\t"}) + member
	}
	return l
}

// respelled returns a name in one of several cases.
func respelled(random *rand.Rand, name string) string {
	return pick(random, []string{name, strings.ToLower(name), strings.ToUpper(name)})
}

// randomAxes returns fields named Variants, and the axes that they state, if they are valid.
func randomAxes(random *rand.Rand) ([]api.Field, []knownAxis) {
	known := knownAxes()
	random.Shuffle(len(known), func(i, k int) { known[i], known[k] = known[k], known[i] })
	known = known[:random.Intn(len(known))]
	var members []string
	for _, a := range known {
		members = append(members, a.written)
	}
	if len(members) > 0 && oneIn(random, 8) {
		broken := pick(random, []string{"z", "z=()", "z=(", "z=(a a)", "Y=(a), y=(b)", "accept-language=(*)", "=(a)", "z=(a) b"})
		return spread(random, "Variants", append(members, broken)), nil
	}
	return spread(random, "Variants", members), known
}

// randomKeys returns fields named Variant-Key, and the keys that they have for the axes, if
// they have no error.
func randomKeys(random *rand.Rand, axes []knownAxis) ([]api.Field, [][]string) {
	var members []string
	var keys [][]string
	for range random.Intn(5) {
		var key, written []string
		for _, a := range axes {
			v := pick(random, a.values)
			key, written = append(key, v.text), append(written, pick(random, v.spellings))
		}
		members = append(members, "("+strings.Join(written, "  ")+" )")
		if !slices.ContainsFunc(keys, func(earlier []string) bool { return slices.Equal(earlier, key) }) {
			keys = append(keys, key)
		}
	}
	if len(axes) == 0 {
		keys = nil
	}
	if oneIn(random, 6) {
		broken := pick(random, []string{"()", "(en", "en", "(none)", "(en fr gzip 1 2 B)", "(a) (b)", `("en)`})
		return spread(random, "Variant-Key", append(members, broken)), nil
	}
	return spread(random, "Variant-Key", members), keys
}

// requestFields returns the fields of a request, and the text of each name that Vary may
// have.
func requestFields(random *rand.Rand) ([]api.Field, map[string]string) {
	texts := map[string]string{"a": "", "vary": "", "zzz": "", "accept-language": "", "user-agent": "", "te": ""}
	var l []api.Field
	if oneIn(random, 2) {
		l, texts["accept-language"] = append(l, fields("Accept-Language: EN ,, fr;q=0.50")...), "=en, fr;q=0.50"
	}
	if oneIn(random, 2) {
		l, texts["user-agent"] = append(l, fields("USER-AGENT: Me ,You", "TE: t", "user-agent: ")...), "=Me ,You, "
		texts["te"] = "=t"
	}
	if oneIn(random, 2) {
		l, texts["a"] = append(l, fields("a: ", "Variants: y=(one)", "Variant-Key: (one)", "Connection: a, vary")...), "="
	}
	return l, texts
}

// randomVary returns fields named Vary, and the names that they name, if these can be used.
func randomVary(random *rand.Rand, texts map[string]string) ([]api.Field, []string) {
	var members, names []string
	all := make([]string, 0, len(texts))
	for name := range texts {
		all = append(all, name)
	}
	slices.Sort(all)
	for range random.Intn(6) {
		name := pick(random, all)
		names, members = append(names, name), append(members, respelled(random, name))
	}
	if oneIn(random, 6) {
		broken := pick(random, []string{"*", "a b", `"a"`, "\xff", "(a)", repeated("a", 64)})
		return spread(random, "Vary", append(members, broken)), nil
	}
	slices.Sort(names)
	return spread(random, "Vary", members), slices.Compact(names)
}

// otherFields returns further fields of a response, and those of them that are stored.
func otherFields(random *rand.Rand) (all, stored []api.Field) {
	names := []string{"Date", "ETag", "Age", "Via", "Host", "Cache-Control", "X-Keep", "Connection-X", "T", ""}
	gone := []string{"Keep-Alive", "TE", "Trailer", "Upgrade", "Proxy-Connection", "Proxy-Authenticate", "Proxy-Authorization", "Transfer-Encoding", "Content-Length", "X-Gone", "Gone"}
	for range random.Intn(8) {
		f := api.Field{Name: respelled(random, pick(random, append(names, gone...))), Value: pick(random, []string{"", "5", "x, y", "\xff"})}
		all = append(all, f)
		if slices.ContainsFunc(names, func(name string) bool { return strings.EqualFold(name, f.Name) }) {
			stored = append(stored, f)
		}
	}
	listed := []string{"Gone", "x-gone", "Host", "cache-control", "VARIANTS", "Variant-key", "vary", "via", "close"}
	return append(all, spread(random, "Connection", listed)...), stored
}

func TestRandomMakes(t *testing.T) {
	random := rand.New(rand.NewSource(26))
	keyed := 0
	for range 40000 {
		asked, texts := requestFields(random)
		variantsFields, axes := randomAxes(random)
		keyFields, keys := randomKeys(random, axes)
		varyFields, names := randomVary(random, texts)
		all, stored := otherFields(random)
		selecting := slices.Concat(variantsFields, keyFields, varyFields)
		q := api.Request{Method: "GET", Fields: asked}
		r := api.Response{Status: 200, Reason: pick(random, []string{"", "OK"}), Fields: slices.Concat(all, selecting), Body: pick(random, []string{"", "abc"})}
		want := api.Entry{Reason: r.Reason, Fields: slices.Concat(stored, selecting), Body: r.Body, Requested: random.Int63n(100), Received: random.Int63n(100)}
		var wantAxes []api.Axis
		if len(keys) > 0 {
			keyed++
			want.Keys = keys
			for _, a := range axes {
				stated := api.Axis{Name: a.name}
				for _, v := range a.values {
					stated.Values = append(stated.Values, v.text)
				}
				wantAxes = append(wantAxes, stated)
			}
		} else {
			want.Vary = names
			for _, name := range names {
				want.Snapshot = append(want.Snapshot, texts[name])
			}
		}
		checkMade(t, q, r, want, wantAxes)
	}
	if keyed < 10000 {
		t.Errorf("only %d responses have keys", keyed)
	}
}

// randomEntry returns an entry with small parts, so that two of them are sometimes equal.
func randomEntry(random *rand.Rand) api.Entry {
	texts := func() []string {
		var l []string
		for range random.Intn(3) {
			l = append(l, pick(random, []string{"", "a", "bc"}))
		}
		return l
	}
	e := api.Entry{Reason: pick(random, []string{"", "OK"}), Body: pick(random, []string{"", "abc"}), Requested: random.Int63n(2), Received: random.Int63n(2) + 1}
	switch random.Intn(4) {
	case 0:
		e.Vary = texts()
	case 1:
		e.Snapshot = texts()
	case 2:
		for range random.Intn(3) {
			e.Keys = append(e.Keys, texts())
		}
	}
	for range random.Intn(3) {
		e.Fields = append(e.Fields, api.Field{Name: pick(random, []string{"Age", "A", "b"}), Value: pick(random, []string{"", "7", "x"})})
	}
	return e
}

// expectedSize adds the texts of an entry up.
func expectedSize(e api.Entry) int {
	items := slices.Concat(slices.Concat(e.Keys...), e.Vary, e.Snapshot)
	for _, f := range e.Fields {
		items = append(items, f.Name+f.Value)
	}
	return 100 + 4*len(items) + len(e.Reason+e.Body+strings.Join(items, ""))
}

func TestRandomEntries(t *testing.T) {
	random := rand.New(rand.NewSource(126))
	equal := 0
	for range 100000 {
		a, b := randomEntry(random), randomEntry(random)
		checkSize(t, a, expectedSize(a))
		// The texts tell entries apart, since no list within them is empty in two ways.
		same := fmt.Sprintf("%#v", a) == fmt.Sprintf("%#v", b)
		if same {
			equal++
		}
		checkEqual(t, a, b, same)
		now := a.Received + random.Int63n(100)
		stated, seen := 0, false
		var kept []api.Field
		for _, f := range a.Fields {
			switch {
			case f.Name != "Age":
				kept = append(kept, f)
			case !seen:
				seen = true
				if f.Value == "7" {
					stated = 7
				}
			}
		}
		checkResponse(t, a, now, "p", stated+int(now-a.Requested), kept...)
	}
	if equal < 100 {
		t.Errorf("only %d pairs were equal", equal)
	}
}

var (
	token = regexp.MustCompile("^[!#$%&'*+\\-.^_`|~0-9A-Za-z]+$")
	text  = regexp.MustCompile(`^([\x21-\x7e\x{80}-\x{ff}]([\t\x20-\x7e\x{80}-\x{ff}]*[\x21-\x7e\x{80}-\x{ff}])?)?$`)
	gone  = regexp.MustCompile(`^(?:[aA][gG][eE]|[cC]ontent-[lL]ength|[tT]ransfer-[eE]ncoding)$`)
)

// expectedSendable reads the lines of the greatest head that is sent for an entry.
func expectedSendable(e api.Entry, name string) bool {
	l := []api.Field{{Name: "Age", Value: "2147483647"}, {Name: "Via", Value: "1.1 " + name}}
	for _, f := range e.Fields {
		if !gone.MatchString(f.Name) {
			l = append(l, f)
		}
	}
	start := "HTTP/1.1 200 " + e.Reason
	head := start + "\r\nContent-Length: " + fmt.Sprint(len(e.Body)) + "\r\n\r\n"
	for _, f := range l {
		line := f.Name + ": " + f.Value
		if f.Value == "" {
			line = f.Name + ":"
		}
		if !token.MatchString(f.Name) || !text.MatchString(asCharacters(f.Value)) || len(line) > api.MaxLine {
			return false
		}
		head += line + "\r\n"
	}
	return len(start) <= api.MaxLine && text.MatchString(asCharacters("."+e.Reason+".")) && len(l) < api.MaxFields && len(e.Body) <= api.MaxBody && len(head) <= api.MaxHead
}

// asCharacters returns the characters of which the numbers are the bytes of s.
func asCharacters(s string) string {
	var b strings.Builder
	for i := range len(s) {
		b.WriteRune(rune(s[i]))
	}
	return b.String()
}

func TestRandomSendables(t *testing.T) {
	random := rand.New(rand.NewSource(226))
	sendable := 0
	const count = 20000
	body := strings.Repeat("b", api.MaxBody+1)
	for range count {
		e := api.Entry{Reason: pick(random, []string{"", "OK", "a b ", "\xff"}), Requested: random.Int63n(9), Received: random.Int63n(9)}
		if oneIn(random, 8) {
			e.Body = body[:api.MaxBody-3+random.Intn(5)]
		}
		length := pick(random, []int{1, 10, 200, 300, 700})
		for range random.Intn(75) {
			e.Fields = append(e.Fields, api.Field{Name: pick(random, []string{"A", "Age", "Content-Length", "b-c"}), Value: strings.Repeat("v", random.Intn(length))})
		}
		for oneIn(random, 3) {
			f := api.Field{Name: pick(random, []string{"A", "age", "A b", "", "Transfer-Encoding", "\xff"}), Value: pick(random, []string{"", "x", " x", "x\t", "\n", "\xff\x00", body[:1990+random.Intn(20)]})}
			e.Fields = slices.Insert(e.Fields, random.Intn(len(e.Fields)+1), f)
		}
		name := pick(random, []string{"p", "vp", "vp", "vp", "a b", "", "x ", "\r", body[:1985+random.Intn(10)]})
		want := expectedSendable(e, name)
		if want {
			sendable++
		}
		if got := entry.Sendable(e, name); got != want {
			t.Errorf("Sendable(%s, %.60q) = %v", shortened(e), name, got)
		}
	}
	if sendable < count/10 || sendable > count*9/10 {
		t.Errorf("%d of %d entries are sendable", sendable, count)
	}
}
