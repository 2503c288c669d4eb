package entry_test

import (
	"fmt"
	"math"
	"reflect"
	"strings"
	"testing"

	"variantproxy/api"
	"variantproxy/entry"
)

// checkSize expects this size, and that the entry is not changed.
func checkSize(t *testing.T, e api.Entry, want int) {
	t.Helper()
	e = roomyEntry(e)
	before := whole(e)
	if got := entry.Size(e); got != want {
		t.Errorf("Size(%s) = %d, not %d", shortened(e), got, want)
	}
	if !reflect.DeepEqual(whole(e), before) {
		t.Errorf("Size has changed its argument to %s", shortened(e))
	}
}

// Promise 26.2, Size

func TestSize(t *testing.T) {
	checkSize(t, api.Entry{}, 100)
	checkSize(t, api.Entry{Reason: "OK"}, 102) // the example
	checkSize(t, api.Entry{Body: "abc"}, 103)
	checkSize(t, api.Entry{Reason: "OK", Body: "abc"}, 105)
	checkSize(t, api.Entry{Requested: math.MaxInt64, Received: math.MinInt64}, 100)
	for count := range 100 {
		text := strings.Repeat("\u00e4", count) // two bytes each
		checkSize(t, api.Entry{Reason: text}, 100+2*count)
		checkSize(t, api.Entry{Body: text}, 100+2*count)
		checkSize(t, api.Entry{Vary: []string{text}}, 104+2*count)
		checkSize(t, api.Entry{Snapshot: []string{text}}, 104+2*count)
		checkSize(t, api.Entry{Keys: [][]string{{text}}}, 104+2*count)
		checkSize(t, api.Entry{Fields: []api.Field{{Name: text}}}, 104+2*count)
		checkSize(t, api.Entry{Fields: []api.Field{{Value: text}}}, 104+2*count)
	}
	checkSize(t, api.Entry{Body: strings.Repeat("x", 1000000)}, 1000100)
}

func TestSizeOfLists(t *testing.T) {
	checkSize(t, api.Entry{Fields: fields("A: bc")}, 107)
	checkSize(t, api.Entry{Fields: fields("A: bc", "De: ", "A: bc")}, 120)
	checkSize(t, api.Entry{Fields: []api.Field{{}}}, 104)
	checkSize(t, api.Entry{Fields: []api.Field{{}, {}}}, 108)
	// A key counts by its values only.
	checkSize(t, api.Entry{Keys: [][]string{nil}}, 100)
	checkSize(t, api.Entry{Keys: [][]string{{}, nil, {}}}, 100)
	checkSize(t, api.Entry{Keys: [][]string{{""}}}, 104)
	checkSize(t, api.Entry{Keys: keysOf("en")}, 106)
	checkSize(t, api.Entry{Keys: keysOf("en gzip", "fr identity")}, 100+6+8+6+12)
	checkSize(t, api.Entry{Keys: [][]string{{"", "a"}, nil, {"a", ""}}}, 118)
	checkSize(t, api.Entry{Vary: []string{"a", "", "bc"}}, 115)
	checkSize(t, api.Entry{Snapshot: []string{"=a", "", "="}}, 115)
	// Lists may have any number of elements, and need not fit together.
	all := api.Entry{Keys: keysOf("a b", "c"), Vary: []string{"de"}, Snapshot: []string{"", "=fgh"}, Reason: "ijklm", Fields: fields("nop: qrstu", "v: "), Body: "wxyzABC", Requested: 5, Received: 6}
	checkSize(t, all, 100+15+6+4+8+5+12+5+7)
	many := api.Entry{Vary: make([]string, 1000), Snapshot: make([]string, 2000), Fields: make([]api.Field, 3000), Keys: make([][]string, 4000)}
	checkSize(t, many, 100+4*6000)
	for i := range many.Keys {
		many.Keys[i] = []string{"x", "y"}
	}
	checkSize(t, many, 100+4*6000+10*4000)
}

// checkEqual expects this of two entries in both orders, and that they are not changed.
func checkEqual(t *testing.T, a, b api.Entry, want bool) {
	t.Helper()
	a, b = roomyEntry(a), roomyEntry(b)
	beforeA, beforeB := whole(a), whole(b)
	if got := entry.Equal(a, b); got != want {
		t.Errorf("Equal(%s, %s) = %v", shortened(a), shortened(b), got)
	}
	if got := entry.Equal(b, a); got != want {
		t.Errorf("Equal(%s, %s) = %v", shortened(b), shortened(a), got)
	}
	if !reflect.DeepEqual(whole(a), beforeA) || !reflect.DeepEqual(whole(b), beforeB) {
		t.Errorf("Equal has changed its arguments to %s and %s", shortened(a), shortened(b))
	}
}

// differentEntries returns entries of which no two are equal.
func differentEntries() []api.Entry {
	var l []api.Entry
	texts := []string{"", "a", "A", "b", "ab", "a ", "\x00", "\u00e4", "\u00c4", "\xff"}
	for i, text := range texts {
		if text != "" {
			l = append(l, api.Entry{Reason: text}, api.Entry{Body: text})
		}
		l = append(l, api.Entry{Vary: []string{text}}, api.Entry{Snapshot: []string{text}}, api.Entry{Keys: [][]string{{text}}})
		l = append(l, api.Entry{Fields: []api.Field{{Name: text}}}, api.Entry{Vary: []string{text, text}}, api.Entry{Snapshot: []string{text, text}})
		l = append(l, api.Entry{Keys: [][]string{{text, text}}}, api.Entry{Keys: [][]string{{text}, {text}}}, api.Entry{Keys: [][]string{{text}, nil}}, api.Entry{Keys: [][]string{nil, {text}}})
		other := texts[1+i%(len(texts)-1)]
		l = append(l, api.Entry{Fields: []api.Field{{Name: text, Value: other}}}, api.Entry{Fields: []api.Field{{Name: text}, {Name: other}}}, api.Entry{Fields: []api.Field{{Name: text}, {Value: other}, {}}})
		l = append(l, api.Entry{Vary: []string{text}, Snapshot: []string{other}}, api.Entry{Vary: []string{other, text}}, api.Entry{Keys: [][]string{{other, text}}}, api.Entry{Keys: [][]string{{other}, {text}}})
	}
	for _, at := range []int64{1, -1, 60, 1 << 31, 1 << 32, 1<<32 + 1, api.MaxNow, math.MaxInt64, math.MinInt64} {
		l = append(l, api.Entry{Requested: at}, api.Entry{Received: at}, api.Entry{Requested: at, Received: at})
	}
	l = append(l, api.Entry{}, api.Entry{Keys: [][]string{nil}}, api.Entry{Keys: [][]string{nil, nil}}, api.Entry{Vary: []string{"", "", ""}})
	return l
}

// Promise 26.2, Equal

func TestEqualOfDifferentEntries(t *testing.T) {
	l := differentEntries()
	for i, a := range l {
		for k, b := range l {
			checkEqual(t, a, b, i == k)
		}
	}
}

// A difference in one part among others that are equal.
func TestEqualOfEachPart(t *testing.T) {
	full := func() api.Entry {
		return api.Entry{Keys: keysOf("en gzip", "fr gzip", "fr br"), Vary: []string{"accept", "dpr"}, Snapshot: []string{"=a", ""}, Reason: "OK", Fields: fields("Date: a", "ETag: b", "Age: 5"), Body: "abc", Requested: 10, Received: 20}
	}
	checkEqual(t, full(), full(), true)
	for i, change := range []func(e *api.Entry){
		func(e *api.Entry) { e.Keys = nil },
		func(e *api.Entry) { e.Keys = e.Keys[:2] },
		func(e *api.Entry) { e.Keys = append(e.Keys, nil) },
		func(e *api.Entry) { e.Keys[0], e.Keys[1] = e.Keys[1], e.Keys[0] },
		func(e *api.Entry) { e.Keys[0][0] = "EN" },
		func(e *api.Entry) { e.Keys[1][1] = "x-gzip" },
		func(e *api.Entry) { e.Keys[2] = e.Keys[2][:1] },
		func(e *api.Entry) { e.Keys[2] = append(e.Keys[2], "") },
		func(e *api.Entry) { e.Keys[2][0], e.Keys[2][1] = e.Keys[2][1], e.Keys[2][0] },
		func(e *api.Entry) { e.Vary = nil },
		func(e *api.Entry) { e.Vary = e.Vary[:1] },
		func(e *api.Entry) { e.Vary = append(e.Vary, "") },
		func(e *api.Entry) { e.Vary[0] = "Accept" },
		func(e *api.Entry) { e.Vary[0], e.Vary[1] = e.Vary[1], e.Vary[0] },
		func(e *api.Entry) { e.Vary, e.Snapshot = e.Snapshot, e.Vary },
		func(e *api.Entry) { e.Snapshot = nil },
		func(e *api.Entry) { e.Snapshot = e.Snapshot[:1] },
		func(e *api.Entry) { e.Snapshot = append(e.Snapshot, "") },
		func(e *api.Entry) { e.Snapshot[1] = "=" },
		func(e *api.Entry) { e.Snapshot[0], e.Snapshot[1] = e.Snapshot[1], e.Snapshot[0] },
		func(e *api.Entry) { e.Reason = "" },
		func(e *api.Entry) { e.Reason = "Ok" },
		func(e *api.Entry) { e.Reason += " " },
		func(e *api.Entry) { e.Fields = nil },
		func(e *api.Entry) { e.Fields = e.Fields[:2] },
		func(e *api.Entry) { e.Fields = e.Fields[1:] },
		func(e *api.Entry) { e.Fields = append(e.Fields, api.Field{}) },
		func(e *api.Entry) { e.Fields[0].Name = "date" },
		func(e *api.Entry) { e.Fields[1].Value = "B" },
		func(e *api.Entry) { e.Fields[2].Value = "05" },
		func(e *api.Entry) { e.Fields[0], e.Fields[1] = e.Fields[1], e.Fields[0] },
		func(e *api.Entry) { e.Body = "" },
		func(e *api.Entry) { e.Body = "abd" },
		func(e *api.Entry) { e.Body += "\x00" },
		func(e *api.Entry) { e.Reason, e.Body = e.Body, e.Reason },
		func(e *api.Entry) { e.Requested = 11 },
		func(e *api.Entry) { e.Requested += 1 << 32 },
		func(e *api.Entry) { e.Requested = -10 },
		func(e *api.Entry) { e.Received = 19 },
		func(e *api.Entry) { e.Received += 1 << 32 },
		func(e *api.Entry) { e.Received = 0 },
		func(e *api.Entry) { e.Requested, e.Received = 20, 10 },
		func(e *api.Entry) { e.Requested, e.Received = 11, 21 },
	} {
		e := full()
		change(&e)
		checkEqual(t, full(), e, false)
		checkEqual(t, e, e, true)
		if t.Failed() {
			t.Fatalf("with the change %d", i)
		}
	}
	checkEqual(t, full(), api.Entry{}, false)
}

// Rule R5: an empty list is none.
func TestEqualOfEmptyLists(t *testing.T) {
	empty := api.Entry{Keys: [][]string{}, Vary: []string{}, Snapshot: []string{}, Fields: []api.Field{}}
	if !entry.Equal(empty, api.Entry{}) || !entry.Equal(api.Entry{}, empty) || !entry.Equal(empty, empty) {
		t.Error("empty lists are not equal to none")
	}
	if a, b := (api.Entry{Keys: [][]string{{}, nil}}), (api.Entry{Keys: [][]string{nil, {}}}); !entry.Equal(a, b) {
		t.Error("an empty key is not equal to one without memory")
	}
	if entry.Equal(api.Entry{Keys: [][]string{{}}}, empty) {
		t.Error("an empty key is equal to none")
	}
}

func TestEqualOfLongEntries(t *testing.T) {
	long := func(last string) api.Entry {
		e := api.Entry{Body: strings.Repeat("x", 300000) + last}
		for i := range 10000 {
			text := fmt.Sprint(i)
			e.Keys, e.Vary = append(e.Keys, []string{text, last}), append(e.Vary, text)
			e.Snapshot, e.Fields = append(e.Snapshot, text), append(e.Fields, api.Field{Name: text, Value: text})
		}
		return e
	}
	a, b := long("a"), long("a")
	checkEqual(t, a, b, true)
	checkEqual(t, a, long("b"), false)
	b.Keys[9999][1] = "b"
	checkEqual(t, a, b, false)
	b.Keys[9999][1] = "a"
	b.Fields[9999].Value = ""
	checkEqual(t, a, b, false)
	b.Fields[9999].Value = "9999"
	b.Snapshot[9999] = ""
	checkEqual(t, a, b, false)
}
