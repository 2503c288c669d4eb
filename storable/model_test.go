package storable_test

import (
	"math/rand"
	"testing"

	"variantproxy/api"
	"variantproxy/storable"
)

// The model puts fields together of which it knows what they say, so that it reads none,
// and states each promise as one expression.

const (
	// silent is what a field says of a thing that it does not name.
	silent = -1
	// spoiled is what a field says of a thing that it names without saying it.
	spoiled = -2
)

// A saying is what a field or several fields say. Of the flags it is enough that one field
// says them; of the numbers the first field counts that names them.
type saying struct {
	noStore, private, permission, unknownVary, span, identity bool

	sMaxAge, maxAge, sent, expires, tag, modified int64
}

func nothing() saying {
	return saying{sMaxAge: silent, maxAge: silent, sent: silent, expires: silent, tag: silent, modified: silent}
}

// A part is a field with what it says.
type part struct {
	field api.Field
	says  saying
}

// parts returns fields of every kind, which a request and a response may have.
func parts() []part {
	var l []part
	add := func(name, value string, change func(says *saying)) {
		p := part{api.Field{Name: name, Value: value}, nothing()}
		change(&p.says)
		l = append(l, p)
	}
	type known struct {
		text  string
		value int64
	}
	for _, name := range []string{"Cache-Control", "cAcHE-cONTROL"} {
		add(name, "no-store", func(says *saying) { says.noStore = true })
		add(name, `x, No-Store="y"`, func(says *saying) { says.noStore = true })
		add(name, "private", func(says *saying) { says.private = true })
		add(name, `Private="x, y", no-cache`, func(says *saying) { says.private = true })
		add(name, "public", func(says *saying) { says.permission = true })
		add(name, "PUBLIC=1, no-cache", func(says *saying) { says.permission = true })
		add(name, "must-revalidate", func(says *saying) { says.permission = true })
		for _, n := range []known{{"0", 0}, {"1", 1}, {"60", 60}, {"99999999999", api.MaxSeconds}, {"x", 0}, {"-5", 0}} {
			add(name, "max-age="+n.text, func(says *saying) { says.maxAge = n.value })
			add(name, "s-maxage="+n.text, func(says *saying) { says.sMaxAge = n.value })
		}
		add(name, "max-age=7, public, s-maxage=0", func(says *saying) { says.maxAge, says.permission, says.sMaxAge = 7, true, 0 })
		for _, text := range []string{"", "no-cache", "proxy-revalidate", "only-if-cached, min-fresh=5, max-stale=6", `x="no-store, private, public"`} {
			add(name, text, func(*saying) {})
		}
	}
	for _, d := range []known{{someDate, 784111777}, {firstDate, 0}, {"Fri, 31 Dec 9999 23:59:59 GMT", 253402300799}, {"0", spoiled}, {"", spoiled}} {
		add("Date", d.text, func(says *saying) { says.sent = d.value })
		add("eXPIRES", d.text, func(says *saying) { says.expires = d.value })
		add("Last-modified", d.text, func(says *saying) { says.modified = d.value })
		add("If-Modified-Since", d.text, func(*saying) {})
	}
	for _, e := range []known{{`"a"`, 0}, {`W/""`, 0}, {"a", spoiled}, {"", spoiled}} {
		add("Etag", e.text, func(says *saying) { says.tag = e.value })
		add("If-None-Match", e.text, func(*saying) {})
	}
	for _, text := range []string{"*", "a, *", "b c", `"d"`} {
		add("vARY", text, func(says *saying) { says.unknownVary = true })
	}
	add("Vary", "Accept, Range, Authorization", func(*saying) {})
	add("Vary", "", func(*saying) {})
	for _, text := range []string{"", "bytes=0-5", "Basic abc", "public"} {
		add("rANGE", text, func(says *saying) { says.span = true })
		add("Content-Range", text, func(*saying) {})
		add("aUTHORIZATION", text, func(says *saying) { says.identity = true })
		add("Proxy-Authorization", text, func(*saying) {})
	}
	add("Pragma", "no-cache, no-store", func(*saying) {})
	return l
}

// together returns the fields of the parts, and what they say together.
func together(l []part) ([]api.Field, saying) {
	var all []api.Field
	says := nothing()
	for _, p := range l {
		all = append(all, p.field)
		for _, flag := range []struct {
			kept  *bool
			added bool
		}{{&says.noStore, p.says.noStore}, {&says.private, p.says.private}, {&says.permission, p.says.permission}, {&says.unknownVary, p.says.unknownVary}, {&says.span, p.says.span}, {&says.identity, p.says.identity}} {
			*flag.kept = *flag.kept || flag.added
		}
		for _, number := range []struct {
			kept  *int64
			added int64
		}{{&says.sMaxAge, p.says.sMaxAge}, {&says.maxAge, p.says.maxAge}, {&says.sent, p.says.sent}, {&says.expires, p.says.expires}, {&says.tag, p.says.tag}, {&says.modified, p.says.modified}} {
			if *number.kept == silent {
				*number.kept = number.added
			}
		}
	}
	return all, says
}

func expectedValidator(says saying) bool {
	return says.tag >= 0 || says.modified >= 0
}

// hasLifetime reports whether the first of three sources that says something says that
// there is a lifetime.
func hasLifetime(says saying) bool {
	return says.sMaxAge > 0 || says.sMaxAge == silent && says.maxAge > 0 ||
		says.sMaxAge == silent && says.maxAge == silent && says.sent >= 0 && says.expires > says.sent
}

func expectedStorable(method string, status int, request, response saying) bool {
	forbidden := request.noStore || response.noStore || response.private || response.unknownVary || request.span
	permitted := !request.identity || response.permission || response.sMaxAge != silent
	return method == "GET" && status == 200 && permitted && !forbidden && (hasLifetime(response) || expectedValidator(response))
}

// checkAgainstModel compares the functions that look at fields with the model.
func checkAgainstModel(t *testing.T, method string, status int, request, response []part) bool {
	t.Helper()
	asked, requestSays := together(request)
	replied, responseSays := together(response)
	want := expectedStorable(method, status, requestSays, responseSays)
	checkStorable(t, api.Request{Method: method, Fields: asked}, api.Response{Status: status, Fields: replied}, want)
	checkValidator(t, replied, expectedValidator(responseSays))
	return want
}

// All pairs of fields of the response, and all fields of the request beside all of the
// response.
func TestPairsOfFields(t *testing.T) {
	all := parts()
	for _, one := range all {
		checkAgainstModel(t, "GET", 200, nil, []part{one})
		for _, other := range all {
			checkAgainstModel(t, "GET", 200, nil, []part{one, other})
			checkAgainstModel(t, "GET", 200, []part{one}, []part{other})
			checkAgainstModel(t, "POST", 200, []part{one}, []part{other})
			checkAgainstModel(t, "GET", 203, []part{one}, []part{other})
		}
	}
}

// All combinations of a field for each thing that matters.
func TestCombinationsOfFields(t *testing.T) {
	askedLines := []string{"Cache-Control: no-store", "Range: x", "Authorization: y", "Cache-Control: no-cache, public, private"}
	repliedLines := []string{"Cache-Control: no-store", "Cache-Control: private", "Cache-Control: public", "Cache-Control: must-revalidate", "Cache-Control: s-maxage=0", "Cache-Control: max-age=5", "Vary: *", `ETag: "a"`, "Last-Modified: " + someDate, "Range: x", "Authorization: y"}
	for askedCode := range 1 << len(askedLines) {
		asks := func(i int) bool { return askedCode>>i&1 == 1 }
		for repliedCode := range 1 << len(repliedLines) {
			says := func(i int) bool { return repliedCode>>i&1 == 1 }
			permitted := !asks(2) || says(2) || says(3) || says(4)
			laterUse := says(5) && !says(4) || says(7) || says(8)
			want := permitted && laterUse && !asks(0) && !asks(1) && !says(0) && !says(1) && !says(6)
			q := api.Request{Method: "GET", Fields: fields(chosen(askedLines, asks)...)}
			r := api.Response{Status: 200, Fields: fields(chosen(repliedLines, says)...)}
			if storable.Storable(q, r) != want {
				checkStorable(t, q, r, want)
			}
		}
	}
}

// chosen returns the lines whose index is taken.
func chosen(lines []string, isTaken func(i int) bool) []string {
	var taken []string
	for i, line := range lines {
		if isTaken(i) {
			taken = append(taken, line)
		}
	}
	return taken
}

// randomParts returns up to so many parts.
func randomParts(random *rand.Rand, all []part, most int) []part {
	var l []part
	for range random.Intn(most + 1) {
		l = append(l, all[random.Intn(len(all))])
	}
	return l
}

func TestRandomMessages(t *testing.T) {
	random := rand.New(rand.NewSource(24))
	all := parts()
	methods, statuses := []string{"GET", "HEAD", "POST", "get"}, []int{200, 304, 206, 404}
	counts := map[bool]int{}
	for range 200000 {
		method, status := "GET", 200
		if random.Intn(8) == 0 {
			method, status = methods[random.Intn(4)], statuses[random.Intn(4)]
		}
		counts[checkAgainstModel(t, method, status, randomParts(random, all, 3), randomParts(random, all, 7))]++
		if t.Failed() {
			return
		}
	}
	if counts[true] < 20000 || counts[false] < 20000 {
		t.Errorf("%d of the responses may be stored, and %d may not", counts[true], counts[false])
	}
}
