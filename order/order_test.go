package order

import (
	"cmp"
	"maps"
	"math"
	"math/rand/v2"
	"slices"
	"strconv"
	"strings"
	"testing"
)

// told has keys and values as they are told, "key=value" each.
func told[K cmp.Ordered](all func(func(K, int) bool), text func(K) string) string {
	var l []string
	for k, v := range all {
		l = append(l, text(k)+"="+strconv.Itoa(v))
	}
	return strings.Join(l, " ")
}

func same(s string) string { return s }

// listed has things as they are told.
func listed[T any](all func(func(T) bool)) []T {
	var l []T
	for x := range all {
		l = append(l, x)
	}
	return l
}

// mapOf has the keys in the order in which they are given, each with its place
// as the value.
func mapOf(keys ...string) *Map[string, int] {
	var m Map[string, int]
	for i, k := range keys {
		m.Set(k, i)
	}
	return &m
}

func TestP4_1ZeroValueOfMap(t *testing.T) {
	var m Map[string, int]
	if m.Len() != 0 || m.Delete("") || m.Delete("a") {
		t.Error("Len, Delete")
	}
	if v, ok := m.Get(""); v != 0 || ok {
		t.Error(v, ok)
	}
	if s := told(m.All(), same) + told(m.From(""), same); s != "" {
		t.Error(s)
	}
	m.Set("", 7)
	if v, ok := m.Get(""); v != 7 || !ok || m.Len() != 1 {
		t.Error(v, ok, m.Len())
	}
}

func TestP4_1SetGetDeleteLen(t *testing.T) {
	m := mapOf("b", "a", "d", "c", "b")
	if m.Len() != 4 {
		t.Error(m.Len())
	}
	for k, want := range map[string]int{"a": 1, "b": 4, "c": 3, "d": 2} {
		if v, ok := m.Get(k); v != want || !ok {
			t.Error(k, v, ok)
		}
	}
	for _, k := range []string{"", "0", "aa", "e", "\xff"} {
		if v, ok := m.Get(k); v != 0 || ok || m.Delete(k) {
			t.Error(k, v, ok)
		}
	}
	for i, k := range []string{"c", "a", "d", "b"} {
		if !m.Delete(k) || m.Delete(k) || m.Len() != 3-i {
			t.Error(k, m.Len())
		}
		if v, ok := m.Get(k); v != 0 || ok {
			t.Error(k, v, ok)
		}
	}
	m.Set("a", 9)
	if v, ok := m.Get("a"); v != 9 || !ok || m.Len() != 1 {
		t.Error(v, ok, m.Len())
	}
}

func TestP4_1AValueThatIsZeroIsOne(t *testing.T) {
	var m Map[int, int]
	m.Set(0, 0)
	if v, ok := m.Get(0); v != 0 || !ok || m.Len() != 1 || !m.Delete(0) {
		t.Error(v, ok, m.Len())
	}
}

func TestP4_1KeysOfOtherKinds(t *testing.T) {
	var m Map[int, []string]
	for _, k := range []int{math.MaxInt, 0, math.MinInt, -1, 1} {
		m.Set(k, []string{strconv.Itoa(k)})
	}
	var l []int
	for k, v := range m.All() {
		l = append(l, k)
		if len(v) != 1 || v[0] != strconv.Itoa(k) {
			t.Error(k, v)
		}
	}
	if !slices.Equal(l, []int{math.MinInt, -1, 0, 1, math.MaxInt}) {
		t.Error(l)
	}
	if v, ok := m.Get(2); v != nil || ok {
		t.Error(v, ok)
	}
	var f Map[float64, int]
	for i, k := range []float64{math.Inf(1), 1.5, math.Inf(-1), 0, -2, math.Copysign(0, -1)} {
		f.Set(k, i)
	}
	text := func(k float64) string { return strconv.FormatFloat(k+0, 'g', -1, 64) }
	if s := told(f.All(), text); s != "-Inf=2 -2=4 0=5 1.5=1 +Inf=0" {
		t.Error(s)
	}
	type name string
	var n Map[name, struct{}]
	n.Set("x", struct{}{})
	if _, ok := n.Get("x"); !ok || n.Len() != 1 {
		t.Error("a kind of its own")
	}
}

func TestP4_2AllAndFromByRisingKeys(t *testing.T) {
	m := mapOf("b", "", "d", "ab", "\xff", "a", "B", "a\x00")
	if s := told(m.All(), same); s != "=1 B=6 a=5 a\x00=7 ab=3 b=0 d=2 \xff=4" {
		t.Errorf("%q", s)
	}
	for from, want := range map[string]string{
		"":         "=1 B=6 a=5 a\x00=7 ab=3 b=0 d=2 \xff=4",
		"\x00":     "B=6 a=5 a\x00=7 ab=3 b=0 d=2 \xff=4",
		"a":        "a=5 a\x00=7 ab=3 b=0 d=2 \xff=4",
		"aa":       "ab=3 b=0 d=2 \xff=4",
		"c":        "d=2 \xff=4",
		"d":        "d=2 \xff=4",
		"d\x00":    "\xff=4",
		"\xff":     "\xff=4",
		"\xff\x00": "",
	} {
		if s := told(m.From(from), same); s != want {
			t.Errorf("From(%q): %q", from, s)
		}
	}
}

func TestP4_2ARangeThatEndsEarly(t *testing.T) {
	m := mapOf("a", "b", "c", "d")
	for n := 1; n <= 4; n++ {
		var l []string
		for k := range m.All() {
			l = append(l, k)
			if len(l) == n {
				break
			}
		}
		if !slices.Equal(l, []string{"a", "b", "c", "d"}[:n]) {
			t.Error(l)
		}
	}
	n := 0
	for range m.From("b") {
		n++
		break
	}
	// Without range: no more is told once the answer was false.
	m.All()(func(string, int) bool { n++; return false })
	m.From("b")(func(string, int) bool { n++; return false })
	if n != 3 {
		t.Error(n)
	}
}

func TestP4_2ChangedWithinTheRange(t *testing.T) {
	changes := map[string]func(m *Map[string, int]){
		"all deleted":   func(m *Map[string, int]) { m.Delete("a"); m.Delete("b"); m.Delete("c"); m.Delete("d") },
		"one set ahead": func(m *Map[string, int]) { m.Set("", 10) },
		"one set":       func(m *Map[string, int]) { m.Set("bb", 10) },
		"one behind":    func(m *Map[string, int]) { m.Set("e", 10) },
		"other values":  func(m *Map[string, int]) { m.Set("a", 10); m.Set("b", 11); m.Set("d", 12) },
		"another map":   func(m *Map[string, int]) { *m = *mapOf("x", "y") },
		"put anew":      func(m *Map[string, int]) { m.Delete("b"); m.Set("b", 9); m.Delete("c"); m.Set("cc", 3) },
	}
	for name, change := range changes {
		for at := range 4 {
			m := mapOf("a", "b", "c", "d")
			seen := ""
			for k, v := range m.All() {
				if v == at {
					change(m)
				}
				seen += k + strconv.Itoa(v)
			}
			if seen != "a0b1c2d3" {
				t.Error(name, at, seen)
			}
			m, seen = mapOf("a", "b", "c", "d"), ""
			for k, v := range m.From("b") {
				change(m)
				seen += k + strconv.Itoa(v)
			}
			if seen != "b1c2d3" {
				t.Error(name, seen)
			}
		}
	}
}

func TestP4_2WhatItHasWhenTheRangeBegins(t *testing.T) {
	m := mapOf("a", "b", "c")
	all, from := m.All(), m.From("b")
	m.Delete("b")
	m.Set("d", 3)
	m.Set("aa", 4)
	if s := told(all, same); s != "a=0 aa=4 c=2 d=3" {
		t.Error(s)
	}
	if s := told(from, same); s != "c=2 d=3" {
		t.Error(s)
	}
	m.Delete("a")
	if s := told(all, same); s != "aa=4 c=2 d=3" {
		t.Error(s)
	}
	m.Delete("c")
	m.Delete("d")
	if s := told(from, same); s != "" {
		t.Error(s)
	}
}

func TestP4_2RangesWithinRanges(t *testing.T) {
	m := mapOf("a", "b", "c")
	seen := ""
	for k := range m.All() {
		for k2 := range m.From(k) {
			seen += k + k2 + " "
			m.Delete(k2)
		}
		m.Set("z", 1)
	}
	if seen != "aa ab ac bz cz " || told(m.All(), same) != "z=1" {
		t.Error(seen)
	}
}

func TestP4_1AndP4_2AgainstAMap(t *testing.T) {
	for seed := range uint64(30) {
		r := rand.New(rand.NewPCG(seed, 4))
		var m Map[int, int]
		plain := map[int]int{}
		for n := range 300 {
			k := r.IntN(40) - 20
			_, there := plain[k]
			if r.IntN(3) == 0 {
				if m.Delete(k) != there {
					t.Fatal("Delete", k, there)
				}
				delete(plain, k)
			} else {
				m.Set(k, n)
				plain[k] = n
			}
			k = r.IntN(40) - 20
			v, ok := m.Get(k)
			if want, there := plain[k]; v != want || ok != there || m.Len() != len(plain) {
				t.Fatal("Get", k, v, ok, want, there, m.Len(), len(plain))
			}
			var want, wantFrom []string
			for _, x := range slices.Sorted(maps.Keys(plain)) {
				s := strconv.Itoa(x) + "=" + strconv.Itoa(plain[x])
				want = append(want, s)
				if x >= k {
					wantFrom = append(wantFrom, s)
				}
			}
			if s := told(m.All(), strconv.Itoa); s != strings.Join(want, " ") {
				t.Fatal("All", s, want)
			}
			if s := told(m.From(k), strconv.Itoa); s != strings.Join(wantFrom, " ") {
				t.Fatal("From", k, s, wantFrom)
			}
		}
	}
}

func TestP4_3ZeroValueOfRecent(t *testing.T) {
	var r Recent[string]
	if r.Len() != 0 || r.Drop("") || len(listed(r.Oldest())) != 0 {
		t.Error("zero value")
	}
	r.Use("")
	if r.Len() != 1 || !r.Drop("") || r.Drop("") || r.Len() != 0 {
		t.Error("one")
	}
}

func TestP4_3UseDropOldest(t *testing.T) {
	var r Recent[int]
	for _, x := range []int{1, 2, 1} {
		r.Use(x)
	}
	if l := listed(r.Oldest()); !slices.Equal(l, []int{2, 1}) || r.Len() != 2 {
		t.Error(l, r.Len())
	}
	for _, x := range []int{3, 4, 5, 1, 1, 2} {
		r.Use(x)
	}
	if l := listed(r.Oldest()); !slices.Equal(l, []int{3, 4, 5, 1, 2}) || r.Len() != 5 {
		t.Error(l, r.Len())
	}
	for _, x := range []int{0, 6} {
		if r.Drop(x) || r.Len() != 5 {
			t.Error(x, r.Len())
		}
	}
	for i, x := range []int{5, 3, 2} {
		if !r.Drop(x) || r.Drop(x) || r.Len() != 4-i {
			t.Error(x, r.Len())
		}
	}
	if l := listed(r.Oldest()); !slices.Equal(l, []int{4, 1}) {
		t.Error(l)
	}
	r.Use(5)
	if l := listed(r.Oldest()); !slices.Equal(l, []int{4, 1, 5}) {
		t.Error(l)
	}
}

func TestP4_3ThingsThatAreOnlyCompared(t *testing.T) {
	type place struct{ x, y int }
	var r Recent[place]
	r.Use(place{1, 2})
	r.Use(place{2, 1})
	r.Use(place{1, 2})
	if l := listed(r.Oldest()); !slices.Equal(l, []place{{2, 1}, {1, 2}}) || r.Drop(place{1, 1}) {
		t.Error(l)
	}
}

func TestP4_3ARangeThatEndsEarly(t *testing.T) {
	var r Recent[int]
	for x := range 4 {
		r.Use(x)
	}
	for n := 1; n <= 4; n++ {
		var l []int
		for x := range r.Oldest() {
			l = append(l, x)
			if len(l) == n {
				break
			}
		}
		if !slices.Equal(l, []int{0, 1, 2, 3}[:n]) {
			t.Error(l)
		}
	}
	n := 0
	r.Oldest()(func(int) bool { n++; return false })
	if n != 1 {
		t.Error(n)
	}
}

func TestP4_3ChangedWithinTheRange(t *testing.T) {
	changes := map[string]func(r *Recent[int], x int){
		"used":      func(r *Recent[int], x int) { r.Use(x) },
		"dropped":   func(r *Recent[int], x int) { r.Drop(x) },
		"next":      func(r *Recent[int], x int) { r.Drop(x + 1) },
		"all":       func(r *Recent[int], x int) { r.Drop(0); r.Drop(1); r.Drop(2); r.Drop(3) },
		"others":    func(r *Recent[int], x int) { r.Use(x + 10) },
		"exchanged": func(r *Recent[int], x int) { r.Drop(3); r.Use(20) },
	}
	for name, change := range changes {
		var r Recent[int]
		for x := range 4 {
			r.Use(x)
		}
		var l []int
		for x := range r.Oldest() {
			change(&r, x)
			l = append(l, x)
		}
		if !slices.Equal(l, []int{0, 1, 2, 3}) {
			t.Error(name, l)
		}
	}
}

func TestP4_3AsTheyAreWhenTheRangeBegins(t *testing.T) {
	var r Recent[int]
	oldest := r.Oldest()
	r.Use(1)
	r.Use(2)
	if l := listed(oldest); !slices.Equal(l, []int{1, 2}) {
		t.Error(l)
	}
	r.Use(1)
	r.Use(3)
	r.Drop(2)
	if l := listed(oldest); !slices.Equal(l, []int{1, 3}) {
		t.Error(l)
	}
}

func TestP4_3AgainstTimes(t *testing.T) {
	for seed := range uint64(30) {
		rnd := rand.New(rand.NewPCG(seed, 5))
		var r Recent[int]
		times := map[int]int{} // when each was used last
		for n := range 300 {
			x := rnd.IntN(12)
			_, there := times[x]
			if rnd.IntN(3) == 0 {
				if r.Drop(x) != there {
					t.Fatal("Drop", x, there)
				}
				delete(times, x)
			} else {
				r.Use(x)
				times[x] = n
			}
			want := slices.SortedFunc(maps.Keys(times), func(a, b int) int { return times[a] - times[b] })
			if l := listed(r.Oldest()); !slices.Equal(l, want) || r.Len() != len(want) {
				t.Fatal(l, want, r.Len())
			}
		}
	}
}

func TestNoCallPanics(t *testing.T) {
	var m *Map[int, int]
	m.Set(1, 2)
	if v, ok := m.Get(1); v != 0 || ok || m.Len() != 0 || m.Delete(1) || told(m.All(), strconv.Itoa)+told(m.From(1), strconv.Itoa) != "" {
		t.Error("nil *Map")
	}
	var r *Recent[int]
	r.Use(1)
	if r.Drop(1) || r.Len() != 0 || len(listed(r.Oldest())) != 0 {
		t.Error("nil *Recent")
	}
	var f Map[float64, int]
	for _, k := range []float64{1, math.NaN(), 2, math.NaN(), 0} {
		f.Set(k, 1)
		f.Get(math.NaN())
	}
	for range f.From(math.NaN()) {
		f.Delete(math.NaN())
	}
	var n Recent[float64]
	n.Use(math.NaN())
	n.Use(math.NaN())
	n.Drop(math.NaN())
}
