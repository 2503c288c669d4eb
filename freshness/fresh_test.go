package freshness_test

import (
	"math"
	"testing"

	"variantproxy/api"
	"variantproxy/cachecontrol"
	"variantproxy/freshness"
)

// control returns a control without any directive.
func control() api.Control {
	return api.Control{MaxAge: -1, SMaxAge: -1, MinFresh: -1, MaxStale: -1}
}

// asked returns the control of a request with these numbers, of which -1 is none.
func asked(maxAge, minFresh, maxStale int) api.Control {
	return api.Control{MaxAge: maxAge, SMaxAge: -1, MinFresh: minFresh, MaxStale: maxStale}
}

func checkFresh(t *testing.T, lifetime, age int, request, response api.Control, want bool) {
	t.Helper()
	if got := freshness.Fresh(lifetime, age, request, response); got != want {
		t.Errorf("Fresh(%d, %d, %+v, %+v) = %v", lifetime, age, request, response, got)
	}
}

// checkFreshOfFields expects this of the controls of a request and a response with these
// values of Cache-Control.
func checkFreshOfFields(t *testing.T, lifetime, age int, request, response string, want bool) {
	t.Helper()
	checkFresh(t, lifetime, age, cachecontrol.Request(fields("Cache-Control: "+request)), cachecontrol.Response(fields("Cache-Control: "+response)), want)
}

// Promise 23.3

func TestFreshWithoutDirectives(t *testing.T) {
	for _, q := range []struct {
		lifetime, age int
		want          bool
	}{
		{60, 0, true}, {60, 1, true}, {60, 50, true}, {60, 59, true}, {60, 60, false}, {60, 61, false}, {60, most, false},
		{1, 0, true}, {1, 1, false}, {0, 0, false}, {0, 1, false}, {0, most, false},
		{most, 0, true}, {most, most - 1, true}, {most, most, false}, {most - 1, most, false}, {most - 1, most - 1, false}, {most - 1, most - 2, true},
	} {
		checkFresh(t, q.lifetime, q.age, control(), control(), q.want)
		// With max-stale, all these responses may be used.
		checkFresh(t, q.lifetime, q.age, asked(-1, -1, most), control(), true)
		checkFresh(t, q.lifetime, q.age, asked(q.age, -1, -1), control(), q.want)
	}
}

func TestNoCache(t *testing.T) {
	for _, request := range []api.Control{control(), asked(most, -1, most), asked(-1, 0, -1), asked(most, 0, most)} {
		for _, age := range []int{0, 1, 59, 60, 61} {
			checkFresh(t, 60, age, request, api.Control{NoCache: true, MaxAge: -1, SMaxAge: -1, MinFresh: -1, MaxStale: -1}, false)
			checkFresh(t, 60, age, request, api.Control{NoCache: true, MaxAge: most, SMaxAge: most, MinFresh: most, MaxStale: most}, false)
			forbidding := request
			forbidding.NoCache = true
			checkFresh(t, 60, age, forbidding, control(), false)
			checkFresh(t, 60, age, forbidding, api.Control{NoCache: true}, false)
		}
	}
	checkFreshOfFields(t, 60, 0, "", "no-cache", false)
	checkFreshOfFields(t, 60, 0, "", `no-cache="set-cookie"`, false)
	checkFreshOfFields(t, 60, 0, "no-cache", "", false)
	checkFreshOfFields(t, 60, 60, "max-stale, no-cache", "", false)
	checkFreshOfFields(t, 60, 60, "max-stale", "no-cache", false)
	checkFresh(t, 60, 0, cachecontrol.Request(fields("Pragma: no-cache")), control(), false)
}

func TestMaxAgeOfRequest(t *testing.T) {
	for _, q := range []struct {
		maxAge, age int
		want        bool
	}{
		{0, 0, true}, {0, 1, false}, {1, 0, true}, {1, 1, true}, {1, 2, false}, {30, 29, true}, {30, 30, true}, {30, 31, false},
		{59, 59, true}, {58, 59, false}, {60, 59, true}, {61, 59, true}, {60, 60, false}, {61, 60, false}, {most, 59, true}, {most, 60, false},
	} {
		checkFresh(t, 60, q.age, asked(q.maxAge, -1, -1), control(), q.want)
		checkFresh(t, 60, q.age, asked(q.maxAge, 0, -1), control(), q.want)
	}
	// It holds beside max-stale and min-fresh.
	checkFresh(t, 60, 61, asked(60, -1, most), control(), false)
	checkFresh(t, 60, 61, asked(61, -1, most), control(), true)
	checkFresh(t, 60, 61, asked(61, -1, 0), control(), false)
	checkFresh(t, 60, 30, asked(29, 30, -1), control(), false)
	checkFresh(t, 60, 30, asked(30, 30, -1), control(), true)
	checkFresh(t, 60, 30, asked(30, 31, -1), control(), false)
	checkFreshOfFields(t, 60, 0, "max-age=0", "", true)
	checkFreshOfFields(t, 60, 1, "max-age=0", "max-age=60", false)
	checkFreshOfFields(t, 60, 1, "max-age=x", "", false)
	checkFreshOfFields(t, 60, 60, "max-age=60, max-stale", "", true)
}

func TestMinFresh(t *testing.T) {
	for _, q := range []struct {
		age, minFresh int
		want          bool
	}{
		{50, 0, true}, {50, 9, true}, {50, 10, true}, {50, 11, false}, {50, 20, false}, {50, most, false},
		{0, 59, true}, {0, 60, true}, {0, 61, false}, {59, 0, true}, {59, 1, true}, {59, 2, false},
		{60, 0, false}, {60, 1, false}, {61, 0, false}, {60, most, false}, {most, 0, false},
	} {
		checkFresh(t, 60, q.age, asked(-1, q.minFresh, -1), control(), q.want)
		// A response that is not fresh is not used with min-fresh, also with max-stale.
		checkFresh(t, 60, q.age, asked(-1, q.minFresh, most), control(), q.want)
		checkFresh(t, 60, q.age, asked(most, q.minFresh, 0), control(), q.want)
	}
	checkFresh(t, most, 0, asked(-1, most, -1), control(), true)
	checkFresh(t, most, 1, asked(-1, most, -1), control(), false)
	checkFresh(t, most, 1, asked(-1, most-1, -1), control(), true)
	checkFreshOfFields(t, 60, 50, "min-fresh=20", "max-age=60", false)
	checkFreshOfFields(t, 60, 50, "min-fresh=10", "s-maxage=60, must-revalidate", true)
	checkFreshOfFields(t, 60, 0, "min-fresh", "max-age=60", false)
	checkFreshOfFields(t, most, 0, "min-fresh=x", "", true)
	checkFreshOfFields(t, most, 1, "min-fresh=x", "", false)
}

func TestMaxStale(t *testing.T) {
	for _, q := range []struct {
		age, maxStale int
		want          bool
	}{
		{59, 0, true}, {60, 0, true}, {61, 0, false}, {61, 1, true}, {62, 1, false}, {69, 10, true}, {70, 10, true}, {71, 10, false},
		{most, most, true}, {most, most - 60, true}, {most, most - 61, false}, {60, most, true},
	} {
		checkFresh(t, 60, q.age, asked(-1, -1, q.maxStale), control(), q.want)
		checkFresh(t, 60, q.age, asked(q.age, -1, q.maxStale), control(), q.want)
	}
	checkFresh(t, 0, 0, asked(-1, -1, 0), control(), true)
	checkFresh(t, 0, most, asked(-1, -1, most), control(), true)
	checkFresh(t, 0, most, asked(-1, -1, most-1), control(), false)
	checkFreshOfFields(t, 60, 60, "max-stale=0", "", true)
	checkFreshOfFields(t, 60, 61, "max-stale=x", "", false)
	checkFreshOfFields(t, 60, most, "max-stale", "max-age=60", true)
	checkFreshOfFields(t, 60, 70, "max-stale=10", "", true)
	checkFreshOfFields(t, 60, 71, "max-stale=10", "", false)
}

// Directives of the response against the use of one that is not fresh say nothing of one
// that is fresh.
func TestDirectivesAgainstStaleness(t *testing.T) {
	for value, forbids := range map[string]bool{
		"must-revalidate": true, "proxy-revalidate": true, "s-maxage=60": true, "s-maxage=0": true, "s-maxage": true, "s-maxage=x": true,
		"must-revalidate, proxy-revalidate, s-maxage=5": true, "max-age=60, Must-Revalidate": true,
		"": false, "max-age=60": false, "max-age=0": false, "public": false, "private": false, "no-store": false, "only-if-cached": false, "min-fresh=5": false, "min-fresh": false, "max-stale=0": false, "x-must-revalidate": false,
	} {
		for _, request := range []string{"", "max-stale", "max-stale=10", "max-age=1000, max-stale=1000"} {
			checkFreshOfFields(t, 60, 59, request, value, true)
			checkFreshOfFields(t, 60, 60, request, value, request != "" && !forbids)
			checkFreshOfFields(t, 60, 70, request, value, request != "" && !forbids)
		}
		checkFreshOfFields(t, 60, 50, "min-fresh=10", value, true)
		checkFreshOfFields(t, 60, 50, "min-fresh=11, max-stale", value, false)
		checkFreshOfFields(t, 60, 60, "min-fresh=0, max-stale", value, false)
	}
	// In a request they mean nothing.
	for _, value := range []string{"must-revalidate", "proxy-revalidate", "s-maxage=0", "s-maxage=60", "no-store", "private", "public", "only-if-cached"} {
		checkFreshOfFields(t, 60, 59, value, "", true)
		checkFreshOfFields(t, 60, 60, value, "", false)
		checkFreshOfFields(t, 60, 60, value+", max-stale", "", true)
	}
}

// Directives that the promise does not name do not matter, neither alone nor together.
func TestDirectivesWithoutMeaning(t *testing.T) {
	others := api.Control{NoStore: true, MustRevalidate: true, ProxyRevalidate: true, Private: true, Public: true, OnlyIfCached: true, SMaxAge: 0, MaxAge: -1, MinFresh: -1, MaxStale: -1}
	checkFresh(t, 60, 59, others, control(), true)
	checkFresh(t, 60, 60, others, control(), false)
	others.MaxStale = 0
	checkFresh(t, 60, 60, others, control(), true)
	checkFresh(t, 60, 61, others, control(), false)
	for _, number := range []int{math.MinInt, -2, -1, 0, 1, 5, 59, 60, 61, most, math.MaxInt} {
		response := api.Control{NoStore: true, Private: true, Public: true, OnlyIfCached: true, MaxAge: number, SMaxAge: -1, MinFresh: number, MaxStale: number}
		checkFresh(t, 60, 59, control(), response, true)
		checkFresh(t, 60, 60, control(), response, false)
		checkFresh(t, 60, 70, asked(-1, -1, 10), response, true)
		checkFresh(t, 60, 71, asked(-1, -1, 10), response, false)
	}
}

// Lifetimes and ages are from 0 to MaxSeconds.
func TestFreshOutOfRange(t *testing.T) {
	above := most
	// Where int has 32 bits, this wraps around, and is out of range, too.
	above++
	for _, wrong := range []int{math.MinInt, math.MinInt + 1, math.MinInt32, -60, -2, -1, above, math.MaxInt - math.MaxInt32 - 1, -math.MaxInt} {
		for _, other := range []int{-1, 0, 1, 60, most - 1, most, above, wrong} {
			for _, request := range []api.Control{control(), asked(-1, -1, most), asked(most, 0, most), asked(-1, -5, -1), asked(math.MaxInt, -1, math.MaxInt), asked(-1, math.MinInt, math.MaxInt), {}} {
				checkFresh(t, wrong, other, request, control(), false)
				checkFresh(t, other, wrong, request, control(), false)
			}
		}
	}
	checkFresh(t, 0, 0, asked(-1, -1, most), control(), true)
	checkFresh(t, most, most, asked(-1, -1, 0), control(), true)
}

// Numbers of controls may be any numbers; only -1 stands for a directive that is absent.
func TestExtremeNumbers(t *testing.T) {
	for _, low := range []int{math.MinInt, math.MinInt + 1, math.MinInt32, -60, -2} {
		checkFresh(t, 60, 0, asked(low, -1, -1), control(), false)
		checkFresh(t, 60, 60, asked(low, -1, most), control(), false)
		checkFresh(t, 60, 0, asked(-1, low, -1), control(), true)
		checkFresh(t, 60, 59, asked(-1, low, -1), control(), true)
		checkFresh(t, 60, 60, asked(-1, low, most), control(), false)
		checkFresh(t, 60, 60, asked(-1, -1, low), control(), false)
		checkFresh(t, 60, most, asked(-1, -1, low), control(), false)
		checkFresh(t, 60, 60, asked(-1, -1, most), api.Control{SMaxAge: low}, false)
	}
	checkFresh(t, 60, 59, asked(math.MaxInt, -1, -1), control(), true)
	checkFresh(t, 60, 0, asked(-1, math.MaxInt, -1), control(), false)
	checkFresh(t, 0, most, asked(math.MaxInt, -1, math.MaxInt), control(), true)
	// The numbers of an empty control are 0, so that they are not absent.
	checkFresh(t, 60, 0, api.Control{}, api.Control{}, true)
	checkFresh(t, 60, 1, api.Control{}, control(), false)
	checkFresh(t, 0, 0, api.Control{}, control(), false)
	checkFresh(t, 0, 0, asked(-1, -1, 0), api.Control{}, false)
}
