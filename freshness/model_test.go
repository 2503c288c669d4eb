package freshness_test

import (
	"math"
	"math/big"
	"math/rand"
	"slices"
	"testing"

	"variantproxy/api"
	"variantproxy/freshness"
)

// The model puts fields together of which it knows what they say, so that it reads none,
// and calculates with numbers of any size.

const (
	// silent is what a field says of a thing that it does not name.
	silent = -1
	// spoiled is what a field says of a thing that it names without saying it.
	spoiled = -2
)

// A saying is what a field or several fields say.
type saying struct {
	sMaxAge, maxAge, expires, sent, age int64
}

func nothing() saying {
	return saying{sMaxAge: silent, maxAge: silent, expires: silent, sent: silent, age: silent}
}

// A part is a field with what it says.
type part struct {
	field api.Field
	says  saying
}

// numberTexts returns texts that stand for numbers of Age and max-age.
func numberTexts() []known {
	return []known{
		{"0", 0}, {"1", 1}, {"007", 7}, {"60", 60}, {"2147483646", most - 1}, {"2147483647", most}, {"2147483648", most}, {"99999999999999999999", most},
	}
}

// parts returns fields of every kind.
func parts() []part {
	var l []part
	add := func(name, value string, change func(says *saying)) {
		p := part{api.Field{Name: name, Value: value}, nothing()}
		change(&p.says)
		l = append(l, p)
	}
	for _, d := range append(knownDates(), known{"x", spoiled}, known{"", spoiled}) {
		add("Date", d.text, func(says *saying) { says.sent = d.seconds })
		add("dATE", d.text, func(says *saying) { says.sent = d.seconds })
		add("Expires", d.text, func(says *saying) { says.expires = d.seconds })
		add("Last-Modified", d.text, func(*saying) {})
	}
	for _, n := range append(numberTexts(), known{"x", spoiled}, known{"-1", spoiled}, known{"", spoiled}, known{"5, 6", spoiled}) {
		add("Age", n.text, func(says *saying) { says.age = n.seconds })
		add("aGE", n.text, func(says *saying) { says.age = n.seconds })
	}
	for _, n := range append(numberTexts(), known{"x", 0}, known{"-1", 0}, known{"", 0}, known{`"7"`, 7}) {
		add("Cache-Control", "public, max-age="+n.text, func(says *saying) { says.maxAge = n.seconds })
		add("cache-control", "s-maxage="+n.text+", no-store", func(says *saying) { says.sMaxAge = n.seconds })
		add("Cache-Control", "max-age=5, S-MaxAge="+n.text+", max-age=6", func(says *saying) { says.sMaxAge, says.maxAge = n.seconds, 5 })
	}
	for _, text := range []string{"", "no-cache, private", "max-stale=5, min-fresh=6, maxage=7", "must-revalidate, proxy-revalidate"} {
		add("Cache-Control", text, func(*saying) {})
		add("Pragma", text+", max-age=5", func(*saying) {})
	}
	return l
}

// together returns the fields of the parts, and what they say together: of each thing, what
// the first one says that names it.
func together(l []part) ([]api.Field, saying) {
	var all []api.Field
	says := nothing()
	for _, p := range l {
		all = append(all, p.field)
		for _, number := range []struct {
			kept  *int64
			added int64
		}{{&says.sMaxAge, p.says.sMaxAge}, {&says.maxAge, p.says.maxAge}, {&says.expires, p.says.expires}, {&says.sent, p.says.sent}, {&says.age, p.says.age}} {
			if *number.kept == silent {
				*number.kept = number.added
			}
		}
	}
	return all, says
}

// atMost returns a number, or MaxSeconds if it is greater.
func atMost(number *big.Int) int {
	if number.Cmp(big.NewInt(most)) > 0 {
		return most
	}
	return int(number.Int64())
}

func expectedLifetime(says saying) int {
	switch {
	case says.sMaxAge >= 0:
		return int(says.sMaxAge)
	case says.maxAge >= 0:
		return int(says.maxAge)
	case says.expires < 0 || says.sent < 0 || says.expires < says.sent:
		return 0
	}
	return atMost(new(big.Int).Sub(big.NewInt(says.expires), big.NewInt(says.sent)))
}

func expectedDate(says saying, received int64) int64 {
	if says.sent < 0 {
		return received
	}
	return says.sent
}

func areInOrder(at times) bool {
	return slices.IsSorted([]int64{0, at.requested, at.received, at.now, 1 << 40})
}

func expectedAge(says saying, at times) int {
	if !areInOrder(at) {
		return most
	}
	requested, received, now := big.NewInt(at.requested), big.NewInt(at.received), big.NewInt(at.now)
	exchange, resident := new(big.Int).Sub(received, requested), new(big.Int).Sub(now, received)
	apparent := new(big.Int).Sub(received, big.NewInt(expectedDate(says, at.received)))
	corrected := new(big.Int).Add(big.NewInt(max(0, says.age)), exchange)
	if corrected.Cmp(apparent) > 0 {
		apparent = corrected
	}
	return atMost(apparent.Add(apparent, resident))
}

// checkAgainstModel compares the three functions that look at fields with the model.
func checkAgainstModel(t *testing.T, l []part, at times) {
	t.Helper()
	all, says := together(l)
	checkLifetime(t, all, expectedLifetime(says))
	checkDate(t, all, at.received, expectedDate(says, at.received))
	checkAge(t, all, at, expectedAge(says, at))
}

func TestPairsOfFields(t *testing.T) {
	all := parts()
	for _, at := range []times{{784111770, 784111780, 784111790}, {0, 0, 0}, {0, 1 << 40, 1 << 40}} {
		checkAgainstModel(t, nil, at)
		for _, one := range all {
			checkAgainstModel(t, []part{one}, at)
			for _, other := range all {
				checkAgainstModel(t, []part{one, other}, at)
			}
		}
	}
}

// randomTimes returns times that often are in order and near to the dates of the parts.
func randomTimes(random *rand.Rand) times {
	dates := knownDates()
	steps := []int64{-1, 0, 1, 5, 60, math.MaxInt32 - 1, math.MaxInt32, math.MaxUint32, 1<<32 + 5}
	step := func() int64 { return steps[random.Intn(len(steps))] }
	received := dates[random.Intn(len(dates))].seconds + step()
	if random.Intn(8) == 0 {
		received = 1<<40 - step()
	}
	return times{received - step(), received, received + step()}
}

func TestRandomFields(t *testing.T) {
	random := rand.New(rand.NewSource(23))
	all := parts()
	counts := map[string]int{}
	for range 100000 {
		var l []part
		for range random.Intn(7) {
			l = append(l, all[random.Intn(len(all))])
		}
		at := randomTimes(random)
		checkAgainstModel(t, l, at)
		if t.Failed() {
			return
		}
		_, says := together(l)
		counts[kindOfLifetime(says)]++
		counts[kindOfAge(says, at)]++
	}
	for _, kind := range []string{"s-maxage", "max-age", "difference", "no difference", "great difference", "no lifetime", "apparent", "corrected", "great age", "disorder"} {
		if counts[kind] < 500 {
			t.Errorf("only %d of the cases are of the kind %q", counts[kind], kind)
		}
	}
}

func kindOfLifetime(says saying) string {
	switch {
	case says.sMaxAge >= 0:
		return "s-maxage"
	case says.maxAge >= 0:
		return "max-age"
	case says.expires < 0 || says.sent < 0:
		return "no lifetime"
	}
	switch expectedLifetime(says) {
	case 0:
		return "no difference"
	case most:
		return "great difference"
	}
	return "difference"
}

func kindOfAge(says saying, at times) string {
	switch {
	case !areInOrder(at):
		return "disorder"
	case expectedAge(says, at) == most:
		return "great age"
	case int64(expectedAge(says, at)) == at.now-says.sent:
		return "apparent"
	}
	return "corrected"
}

// Sums of extreme times do not wrap around.
func TestAgeAtExtremeTimes(t *testing.T) {
	extremes := []int64{math.MinInt64, math.MinInt64 + 1, -1 << 40, math.MinInt32, -1, 0, 1, math.MaxInt32, math.MaxUint32, 1<<40 - 1, 1 << 40, 1<<40 + 1, 1 << 62, math.MaxInt64 - 1, math.MaxInt64}
	var lists [][]part
	for _, p := range parts() {
		if p.says.sent != silent || p.says.age != silent {
			lists = append(lists, []part{p})
		}
	}
	for _, requested := range extremes {
		for _, received := range extremes {
			for _, now := range extremes {
				for _, l := range append(lists, nil) {
					checkAgainstModel(t, l, times{requested, received, now})
				}
			}
		}
	}
}

// expectedFresh states the promise as one expression, without an order of cases.
func expectedFresh(lifetime, age int, request, response api.Control) bool {
	inRange := min(lifetime, age) >= 0 && max(lifetime, age) <= most
	permitted := !(request.NoCache || response.NoCache) && (request.MaxAge == -1 || age <= request.MaxAge)
	left := int64(lifetime) - int64(age)
	staysFresh := left > 0 && (request.MinFresh == -1 || left >= int64(request.MinFresh))
	strict := response.MustRevalidate || response.ProxyRevalidate || response.SMaxAge != -1
	acceptsStale := left <= 0 && !strict && request.MinFresh == -1 && request.MaxStale != -1 && -left <= int64(request.MaxStale)
	return inRange && permitted && (staysFresh || acceptsStale)
}

// All combinations of a few lifetimes, ages and directives.
func TestCombinationsOfDirectives(t *testing.T) {
	seconds := []int{-2, -1, 0, 1, 2, 3, most - 1, most}
	numbers := []int{-2, -1, 0, 1, 2, most}
	for flags := range 16 {
		for _, sMaxAge := range []int{-2, -1, 0, 2, most} {
			response := api.Control{NoCache: flags&1 != 0, MustRevalidate: flags&2 != 0, ProxyRevalidate: flags&4 != 0, MaxAge: -1, SMaxAge: sMaxAge, MinFresh: -1, MaxStale: -1}
			for code := range len(numbers) * len(numbers) * len(numbers) {
				request := asked(numbers[code%6], numbers[code/6%6], numbers[code/36])
				request.NoCache = flags&8 != 0
				for _, lifetime := range seconds {
					for _, age := range seconds {
						if want := expectedFresh(lifetime, age, request, response); freshness.Fresh(lifetime, age, request, response) != want {
							checkFresh(t, lifetime, age, request, response, want)
						}
					}
				}
			}
		}
	}
}

func randomControl(random *rand.Rand) api.Control {
	flag := func() bool { return random.Intn(6) == 0 }
	number := func() int {
		numbers := []int{-1, -1, -1, 0, 5, 10, 50, 60, 70, most, math.MinInt, math.MaxInt, random.Intn(80), random.Intn(80)}
		return numbers[random.Intn(len(numbers))]
	}
	return api.Control{
		NoStore: flag(), NoCache: flag(), MustRevalidate: flag(), ProxyRevalidate: flag(), Private: flag(), Public: flag(), OnlyIfCached: flag(),
		MaxAge: number(), SMaxAge: number(), MinFresh: number(), MaxStale: number(),
	}
}

func TestRandomControls(t *testing.T) {
	random := rand.New(rand.NewSource(233))
	fresh := 0
	for range 300000 {
		lifetime, age := random.Intn(80), random.Intn(80)
		request, response := randomControl(random), randomControl(random)
		want := expectedFresh(lifetime, age, request, response)
		checkFresh(t, lifetime, age, request, response, want)
		if t.Failed() {
			return
		}
		if want {
			fresh++
		}
	}
	if fresh < 10000 || fresh > 290000 {
		t.Errorf("%d of the responses are fresh", fresh)
	}
}
