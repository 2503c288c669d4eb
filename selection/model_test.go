package selection_test

import (
	"slices"
	"sort"
	"strings"

	"variantproxy/api"
)

// choice is a member of a request field. Its quality and the specificity with which it
// matches values are written down as the chapters of the layers 8 to 13 state them;
// it matches no other values. The model calls no other package.
type choice struct {
	text    string
	quality int
	matches map[string]int
}

// choices holds members of the four fields, also malformed ones, which match nothing.
var choices = map[string][]choice{
	"accept": {
		{"*/*;q=0.3", 300, map[string]int{"text/html": 0, "text/html;level=1": 0, "TEXT/Plain": 0, "image/png": 0}},
		{"Text/*", 1000, map[string]int{"text/html": 1, "text/html;level=1": 1, "TEXT/Plain": 1}},
		{"text/HTML;q=0.5", 500, map[string]int{"text/html": 2, "text/html;level=1": 2}},
		{"text/html; LEVEL=1; q=0", 0, map[string]int{"text/html;level=1": 3}},
		{"text/plain;q=0.001", 1, map[string]int{"TEXT/Plain": 2}},
		{"image/*;q=0.3", 300, map[string]int{"image/png": 1}},
		{"text/html;level=2", 1000, nil},
		{"image/png;q=2", 0, nil},
		{"image", 1000, nil},
	},
	"accept-language": {
		{"*;q=0.4", 400, map[string]int{"EN": 0, "de": 0, "de-CH": 0, "x-y": 0}},
		{"en", 1000, map[string]int{"EN": 1}},
		{"DE;q=0.7", 700, map[string]int{"de": 1, "de-CH": 1}},
		{"de-ch ; q=0", 0, map[string]int{"de-CH": 2}},
		{"x-Y;q=0.4", 400, map[string]int{"x-y": 2}},
		{"de-AT", 1000, nil},
		{"en;q=x", 0, nil},
		{"en;a=b", 0, nil},
	},
	"accept-charset": {
		{"*;q=0.5", 500, map[string]int{"UTF-8": 0, "iso-8859-1": 0, "x-gzip": 0}},
		{"utf-8;q=0", 0, map[string]int{"UTF-8": 1}},
		{"ISO-8859-1", 1000, map[string]int{"iso-8859-1": 1}},
		{"X-GZIP;q=0.5", 500, map[string]int{"x-gzip": 1}},
		{"gzip", 1000, nil},
		{"identity", 1000, nil},
		{"utf 8", 1000, nil},
	},
	"accept-encoding": {
		{"*;q=0.2", 200, map[string]int{"X-Gzip": 0, "compress": 0, "Identity": 0, "br": 0}},
		{"*;q=0", 0, map[string]int{"X-Gzip": 0, "compress": 0, "Identity": 0, "br": 0}},
		{"gzip", 1000, map[string]int{"X-Gzip": 1}},
		{"x-COMPRESS;q=0.2", 200, map[string]int{"compress": 1}},
		{"identity;q=0", 0, map[string]int{"Identity": 1}},
		{"IDENTITY;q=0.001", 1, map[string]int{"Identity": 1}},
		{"BR;q=0", 0, map[string]int{"br": 1}},
		{"zstd", 1000, nil},
		{"br;q=.5", 0, nil},
	},
	"dpr": {{text: "1"}, {text: "2"}, {text: "A"}, {text: `"1,2"`}, {text: "1;q=0.5"}, {text: "*"}},
}

// modelNames are the names of the axes that the choices are about.
var modelNames = []string{"accept", "accept-language", "accept-charset", "accept-encoding", "dpr"}

// modelValues holds the values of the axes that the choices judge.
var modelValues = map[string][]string{
	"accept":          {"text/html", "text/html;level=1", "TEXT/Plain", "image/png"},
	"accept-language": {"EN", "de", "de-CH", "x-y"},
	"accept-charset":  {"UTF-8", "iso-8859-1", "x-gzip"},
	"accept-encoding": {"X-Gzip", "compress", "Identity", "br"},
	"dpr":             {"1", "2", "a", "1, 2", "1,2", `"1,2"`, "2, *", "1;q=0.5"},
}

// expectedRanked follows promise 17.1 for a valid axis and the choices of its field,
// which is nil without a field.
func expectedRanked(a api.Axis, field *[]choice, strict bool) []string {
	ranked := expectedAcceptable(a, field)
	if len(ranked) == 0 && !strict {
		return a.Values[:1]
	}
	return ranked
}

func expectedAcceptable(a api.Axis, field *[]choice) []string {
	var first []choice
	if field != nil {
		first = (*field)[:min(len(*field), 64)]
	}
	if a.Name == "dpr" {
		var texts []string
		for _, c := range first {
			texts = append(texts, c.text)
		}
		return slices.DeleteFunc(slices.Clone(a.Values), func(value string) bool {
			return field == nil || value != strings.Join(texts, ", ")
		})
	}
	quality := map[string]int{}
	var ranked []string
	for _, value := range a.Values {
		quality[value] = expectedQuality(a.Name, first, value)
		if field == nil {
			quality[value] = 1000
		}
		if quality[value] > 0 {
			ranked = append(ranked, value)
		}
	}
	sort.SliceStable(ranked, func(i, j int) bool { return quality[ranked[i]] > quality[ranked[j]] })
	return ranked
}

// expectedQuality takes each specificity from the greatest one down.
func expectedQuality(axis string, l []choice, value string) int {
	for specificity := 3; specificity >= 0; specificity-- {
		for _, c := range l {
			if found, ok := c.matches[value]; ok && found == specificity {
				return c.quality
			}
		}
	}
	if axis == "accept-encoding" && value == "Identity" {
		return 1
	}
	return 0
}

// expectedKeys follows promise 17.2 for valid axes with these ranked values: it makes
// all keys and keeps the first ones.
func expectedKeys(ranked [][]string) [][]string {
	keys := [][]string{nil}
	for _, values := range ranked {
		var longer [][]string
		for _, key := range keys {
			for _, value := range values {
				longer = append(longer, append(slices.Clone(key), value))
			}
		}
		keys = longer
	}
	return keys[:min(len(keys), 64)]
}
