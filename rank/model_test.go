package rank_test

import (
	"slices"
	"sort"
	"strings"

	"variantproxy/api"
)

// specificities says how specifically each range matches the values of a kind, as
// the chapters of the layers 10 to 13 state it. What is not written down does not
// match. It calls no other package.
var specificities = map[int]map[string]map[string]int{
	api.KindAccept: {
		"*/*":                   {"text/html": 0, "text/html;level=1": 0, "text/html;level=1;a=b": 0, "text/plain": 0, "image/png": 0},
		"text/*":                {"text/html": 1, "text/html;level=1": 1, "text/html;level=1;a=b": 1, "text/plain": 1},
		"text/*;level=9":        {"text/html": 1, "text/html;level=1": 1, "text/html;level=1;a=b": 1, "text/plain": 1},
		"text/html":             {"text/html": 2, "text/html;level=1": 2, "text/html;level=1;a=b": 2},
		"text/html;level=1":     {"text/html;level=1": 3, "text/html;level=1;a=b": 3},
		"text/html;A=B;level=1": {"text/html;level=1;a=b": 4},
		"image/*":               {"image/png": 1},
		"text":                  {},
	},
	api.KindLanguage: {
		"*":       {"de": 0, "de-CH": 0, "DE-ch-1996": 0, "en": 0, "den": 0},
		"de":      {"de": 1, "de-CH": 1, "DE-ch-1996": 1},
		"DE-CH":   {"de-CH": 2, "DE-ch-1996": 2},
		"de-1996": {},
		"EN":      {"en": 1},
		"en-":     {},
	},
	api.KindCharset: {
		"*":      {"utf-8": 0, "UTF-8": 0, "identity": 0, "x-gzip": 0, "gzip": 0},
		"Utf-8":  {"utf-8": 1, "UTF-8": 1},
		"gzip":   {"gzip": 1},
		"x-gzip": {"x-gzip": 1},
		"a b":    {},
	},
	api.KindCoding: {
		"*":        {"br": 0, "gzip": 0, "X-GZIP": 0, "identity": 0, "Identity": 0},
		"gzip":     {"gzip": 1, "X-GZIP": 1},
		"x-gzip":   {"gzip": 1, "X-GZIP": 1},
		"Identity": {"identity": 1, "Identity": 1},
		"br":       {"br": 1},
		"br;q=1":   {},
	},
}

// modelValues holds the values that the table judges, and some that nothing matches.
var modelValues = map[int][]string{
	api.KindAccept:   {"text/html", "text/html;level=1", "text/html;level=1;a=b", "text/plain", "image/png", "text/*", "text", ""},
	api.KindLanguage: {"de", "de-CH", "DE-ch-1996", "en", "den", "*", "e1", "identity-"},
	api.KindCharset:  {"utf-8", "UTF-8", "identity", "x-gzip", "gzip", "*", "utf 8", ""},
	api.KindCoding:   {"br", "gzip", "X-GZIP", "identity", "Identity", "*", "g zip", ""},
}

// expectedSpecificity returns -1 for what the table does not contain.
func expectedSpecificity(kind int, r, value string) int {
	if specificity, ok := specificities[kind][r][value]; ok {
		return specificity
	}
	return -1
}

// expectedQuality follows promise 14.1: it takes each specificity from the greatest
// one down.
func expectedQuality(kind int, l []api.Pref, present bool, value string) int {
	if !present {
		return 1000
	}
	for specificity := 9; specificity >= 0; specificity-- {
		for _, p := range l {
			if expectedSpecificity(kind, p.Range, value) == specificity {
				return p.Q
			}
		}
	}
	if kind == api.KindCoding && strings.EqualFold(value, "identity") && len(value) == len("identity") {
		return 1
	}
	return 0
}

// expectedRank follows promise 14.2.
func expectedRank(kind int, l []api.Pref, present bool, values []string) []string {
	type judged struct {
		value   string
		quality int
	}
	var all []judged
	for _, value := range values {
		all = append(all, judged{value, expectedQuality(kind, l, present, value)})
	}
	all = slices.DeleteFunc(all, func(v judged) bool { return v.quality <= 0 })
	sort.SliceStable(all, func(i, j int) bool { return all[i].quality > all[j].quality })
	var ranked []string
	for _, v := range all {
		ranked = append(ranked, v.value)
	}
	return ranked
}
