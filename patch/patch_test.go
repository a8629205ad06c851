package patch

import (
	"math"
	"math/rand/v2"
	"slices"
	"strings"
	"testing"

	"concordance/api"
)

const most = 65535

func filled(n int) string { return strings.Repeat("d", n) }

// wrongLists has lists of pieces that aren't right, by what is wrong in them.
func wrongLists() map[string][]Piece {
	return map[string][]Piece{
		"At -1":                               {{-1, "a"}},
		"At 65536":                            {{65536, "a"}},
		"the least At":                        {{math.MinInt, "a"}},
		"the greatest At":                     {{math.MaxInt, "a"}},
		"no Data":                             {{0, ""}},
		"no Data at the end":                  {{0, "a"}, {1, ""}},
		"no Data ahead":                       {{0, ""}, {0, "a"}},
		"65536 bytes of Data":                 {{0, filled(65536)}},
		"one place twice":                     {{3, "a"}, {3, "b"}},
		"not in order":                        {{3, "a"}, {2, "b"}},
		"one byte ahead":                      {{0, "abc"}, {2, "d"}},
		"far ahead":                           {{5, "abc"}, {0, "d"}},
		"the third one ahead":                 {{0, "a"}, {1, "bb"}, {2, "c"}},
		"behind an end that is beyond all At": {{1, filled(most)}, {65535, "a"}},
		"the last At is 65536":                {{65535, "a"}, {65536, "b"}},
		"the last At is -1":                   {{0, "a"}, {-1, "b"}},
	}
}

func rightLists() [][]Piece {
	return [][]Piece{
		nil, {},
		{{0, "a"}}, {{65535, "a"}}, {{0, filled(most)}}, {{65535, filled(most)}},
		{{0, "ab"}, {2, "c"}, {3, "d"}}, // they touch each other
		{{0, "\x00\xff"}, {7, "abc"}, {65534, "a"}, {65535, "b"}},
		{{0, filled(most)}, {65535, filled(most)}},
	}
}

func TestP6_1Diff(t *testing.T) {
	for _, c := range []struct {
		old, new string
		want     []Piece
	}{
		{"", "", nil}, {"a", "a", nil}, {"abcdefgh", "abcdefgh", nil},
		{"abcdefgh", "xbcdefgy", []Piece{{0, "x"}, {7, "y"}}},
		{"a", "b", []Piece{{0, "b"}}},
		{"abc", "xyz", []Piece{{0, "xyz"}}},
		{"aaaa", "bbbb", []Piece{{0, "bbbb"}}},
		// What is the same at the ends stays out, however short it is.
		{"abc", "axc", []Piece{{1, "x"}}}, {"aab", "aax", []Piece{{2, "x"}}}, {"baa", "xaa", []Piece{{0, "x"}}},
		{"aaaabaaaa", "aaaaxaaaa", []Piece{{4, "x"}}},
		// No bytes, one, two, three are no gap; four and five are.
		{"12", "xy", []Piece{{0, "xy"}}},
		{"1a2", "xay", []Piece{{0, "xay"}}},
		{"1ab2", "xaby", []Piece{{0, "xaby"}}},
		{"1abc2", "xabcy", []Piece{{0, "xabcy"}}},
		{"1abcd2", "xabcdy", []Piece{{0, "x"}, {5, "y"}}},
		{"1abcde2", "xabcdey", []Piece{{0, "x"}, {6, "y"}}},
		// Gaps of three, four and three.
		{"1abc2abcd3abc4", "wabcxabcdyabcz", []Piece{{0, "wabcx"}, {9, "yabcz"}}},
		{"1abc2abc3abc4", "wabcxabcyabcz", []Piece{{0, "wabcxabcyabcz"}}},
		{"1abcd2abcd3", "xabcdyabcdz", []Piece{{0, "x"}, {5, "y"}, {10, "z"}}},
		{"\x00\x00\x00\x00\x00\x00", "\xff\x00\x00\x00\x00\x01", []Piece{{0, "\xff"}, {5, "\x01"}}},
		// The same bytes, but at other places, are no gap.
		{"abcdabcd", "bcdabcda", []Piece{{0, "bcdabcda"}}},
	} {
		if l := Diff(c.old, c.new); !slices.Equal(l, c.want) {
			t.Errorf("Diff(%q, %q): %v", c.old, c.new, l)
		}
	}
}

func TestP6_1DiffOfOtherLengths(t *testing.T) {
	for _, c := range [][2]string{
		{"", "a"}, {"a", ""}, {"abc", "abx0"}, {"abcd", "xbc"}, {"a", filled(most)}, {filled(most), filled(most + 1)},
		{strings.Repeat("a", most+1), strings.Repeat("b", most+1)},
		{"a" + filled(most), "b" + filled(most)},
		{strings.Repeat("a", 200000), strings.Repeat("b", 200000)},
	} {
		if l := Diff(c[0], c[1]); len(l) != 0 {
			t.Errorf("Diff of %d and %d bytes: %d pieces", len(c[0]), len(c[1]), len(l))
		}
	}
	for _, n := range []int{most - 1, most} {
		now := strings.Repeat("b", n)
		if l := Diff(strings.Repeat("a", n), now); !slices.Equal(l, []Piece{{0, now}}) {
			t.Errorf("Diff of %d bytes: %d pieces", n, len(l))
		}
		if l := Diff(filled(n), filled(n-1)+"x"); !slices.Equal(l, []Piece{{n - 1, "x"}}) {
			t.Errorf("Diff of %d bytes: %d pieces", n, len(l))
		}
	}
}

// gapIn: has a part of two texts four bytes in a row that are the same?
func gapIn(old, now string) bool {
	for i := 0; i+4 <= len(now); i++ {
		if old[i:i+4] == now[i:i+4] {
			return true
		}
	}
	return false
}

// asPromised tells where the pieces of now aren't as the document says.
func asPromised(t *testing.T, old, now string, l []Piece) {
	t.Helper()
	end := 0
	for i, p := range l {
		to := p.At + len(p.Data)
		if p.At < end || p.Data == "" || to > len(now) || now[p.At:to] != p.Data {
			t.Fatalf("Diff(%q, %q): %v is no piece", old, now, p)
		}
		if old[p.At] == now[p.At] || old[to-1] == now[to-1] {
			t.Fatalf("Diff(%q, %q): %v begins or ends with what is the same", old, now, p)
		}
		if gapIn(old[p.At:to], now[p.At:to]) {
			t.Fatalf("Diff(%q, %q): a gap within %v", old, now, p)
		}
		if i > 0 && !gapIn(old[end:p.At], now[end:p.At]) {
			t.Fatalf("Diff(%q, %q): no gap ahead of %v", old, now, p)
		}
		if old[end:p.At] != now[end:p.At] {
			t.Fatalf("Diff(%q, %q): more isn't the same ahead of %v", old, now, p)
		}
		end = to
	}
	if old[end:] != now[end:] {
		t.Fatalf("Diff(%q, %q): more isn't the same at the end", old, now)
	}
}

func TestP6_1DiffAndApplyOfAllShortTexts(t *testing.T) {
	const size = 13
	old := strings.Repeat("a", size)
	for bits := range 1 << size {
		b := []byte(old)
		for i := range size {
			if bits>>i&1 == 1 {
				b[i] = 'b'
			}
		}
		l := Diff(old, string(b))
		asPromised(t, old, string(b), l)
		if s, e := Apply(old, l); s != string(b) || e != api.OK {
			t.Fatalf("Apply(%q, %v): %q %d", old, l, s, e)
		}
	}
}

func TestP6_1DiffAndApplyOfAnyTexts(t *testing.T) {
	numbers := rand.New(rand.NewPCG(6, 1))
	for round := range 600 {
		size := numbers.IntN(600)
		if round%100 == 0 {
			size = most - numbers.IntN(3)
		}
		old := make([]byte, size)
		for i := range old {
			old[i] = byte(numbers.IntN(256))
		}
		now := slices.Clone(old)
		for i, often := 0, 1+numbers.IntN(9); i < size; i += 1 + numbers.IntN(often) {
			now[i] = byte(numbers.IntN(256))
		}
		l := Diff(string(old), string(now))
		asPromised(t, string(old), string(now), l)
		if s, e := Apply(string(old), l); s != string(now) || e != api.OK {
			t.Fatalf("Apply(%q, %v): %q %d", old, l, s, e)
		}
		k, n, e := Get(Put(l))
		if !slices.Equal(k, l) || n != len(Put(l)) || e != api.OK {
			t.Fatalf("Get(Put(%v)): %v %d %d", l, k, n, e)
		}
	}
}

func TestP6_1Apply(t *testing.T) {
	for _, c := range []struct {
		s    string
		l    []Piece
		want string
	}{
		{"", nil, ""}, {"", []Piece{}, ""}, {"abc", nil, "abc"},
		{"abc", []Piece{{0, "x"}}, "xbc"}, {"abc", []Piece{{2, "x"}}, "abx"}, {"abc", []Piece{{0, "xyz"}}, "xyz"},
		{"abcdef", []Piece{{1, "x"}, {4, "yz"}}, "axcdyz"},
		{"abcdef", []Piece{{0, "xy"}, {2, "z"}, {3, "\x00\xff"}}, "xyz\x00\xfff"},
		{"abc", []Piece{{1, "b"}}, "abc"},
	} {
		if s, e := Apply(c.s, c.l); s != c.want || e != api.OK {
			t.Errorf("Apply(%q, %v): %q %d", c.s, c.l, s, e)
		}
	}
}

func TestP6_1ApplyToLongTexts(t *testing.T) {
	s := strings.Repeat("s", 200000)
	for _, l := range rightLists() {
		want := []byte(s)
		for _, p := range l {
			want = slices.Concat(want[:p.At], []byte(p.Data), want[p.At+len(p.Data):])
		}
		if got, e := Apply(s, l); got != string(want) || e != api.OK {
			t.Errorf("Apply of %d pieces: %d bytes, %d", len(l), len(got), e)
		}
	}
	all := make([]Piece, most+1)
	for i := range all {
		all[i] = Piece{i, "x"}
	}
	if got, e := Apply(s, all); got != strings.Repeat("x", most+1)+s[most+1:] || e != api.OK {
		t.Errorf("Apply of a piece at each place: %d bytes, %d", len(got), e)
	}
}

func TestP6_1ApplyBeyondTheText(t *testing.T) {
	for _, c := range []struct {
		s    string
		l    []Piece
		want api.Errno
	}{
		{"", []Piece{{0, "a"}}, api.ErrLong},
		{"abc", []Piece{{2, "x"}}, api.OK}, {"abc", []Piece{{2, "xy"}}, api.ErrLong},
		{"abc", []Piece{{3, "x"}}, api.ErrLong}, {"abc", []Piece{{4, "x"}}, api.ErrLong}, {"abc", []Piece{{65535, "x"}}, api.ErrLong},
		{"abc", []Piece{{0, "xyz"}}, api.OK}, {"abc", []Piece{{0, "xyzw"}}, api.ErrLong},
		{"abc", []Piece{{0, "x"}, {1, "yz"}}, api.OK}, {"abc", []Piece{{0, "x"}, {1, "yzw"}}, api.ErrLong},
		{filled(most), []Piece{{65535, "a"}}, api.ErrLong}, {filled(most + 1), []Piece{{65535, "a"}}, api.OK},
		{filled(2 * most), []Piece{{65535, filled(most)}}, api.OK},
		{filled(2*most - 1), []Piece{{65535, filled(most)}}, api.ErrLong},
	} {
		s, e := Apply(c.s, c.l)
		if e != c.want || e != api.OK && s != "" {
			t.Errorf("Apply of %d pieces to %d bytes: %d bytes, %d", len(c.l), len(c.s), len(s), e)
		}
	}
}

func TestP6_1ApplyOfWrongPieces(t *testing.T) {
	for name, l := range wrongLists() {
		// ErrArg comes ahead of ErrLong, wherever the text ends.
		for _, s := range []string{"", "abc", filled(200000)} {
			if got, e := Apply(s, l); got != "" || e != api.ErrArg {
				t.Errorf("%s, of %d bytes: %d bytes, %d", name, len(s), len(got), e)
			}
		}
	}
	if s, e := Apply("abc", []Piece{{9, "beyond"}, {0, "not in order"}}); s != "" || e != api.ErrArg {
		t.Error(s, e)
	}
}

func TestP6_1WhatIsHandedInStaysAsItIs(t *testing.T) {
	behind := []Piece{{0, "a"}, {4, "b"}, {2, "behind"}}
	l := behind[:2]
	Apply("012345", l)
	Apply("0", l)
	Put(l)
	if !slices.Equal(behind, []Piece{{0, "a"}, {4, "b"}, {2, "behind"}}) {
		t.Error(behind)
	}
	s := Put(l)
	one, _, _ := Get(s)
	two, _, _ := Get(s)
	one[0].Data = "changed"
	if two[0].Data != "a" {
		t.Error("two answers share their pieces")
	}
}

func TestP6_2Put(t *testing.T) {
	for _, c := range []struct {
		l    []Piece
		want string
	}{
		{nil, "\x00\x00"}, {[]Piece{}, "\x00\x00"},
		{[]Piece{{0, "a"}}, "\x00\x01\x00\x00\x00\x01a"},
		{[]Piece{{258, "abc"}}, "\x00\x01\x01\x02\x00\x03abc"},
		{[]Piece{{65535, "\x00"}}, "\x00\x01\xff\xff\x00\x01\x00"},
		{[]Piece{{0, "ab"}, {2, "c"}, {772, filled(258)}}, "\x00\x03\x00\x00\x00\x02ab\x00\x02\x00\x01c\x03\x04\x01\x02" + filled(258)},
		{[]Piece{{0, filled(most)}}, "\x00\x01\x00\x00\xff\xff" + filled(most)},
	} {
		if s := Put(c.l); s != c.want {
			t.Errorf("Put of %d pieces: %.100q", len(c.l), s)
		}
	}
	for name, l := range wrongLists() {
		if s := Put(l); s != "" {
			t.Errorf("%s: %.100q", name, s)
		}
	}
}

func TestP6_2PutOfVeryManyPieces(t *testing.T) {
	all := make([]Piece, most+1)
	for i := range all {
		all[i] = Piece{i, "x"}
	}
	if s := Put(all); s != "" {
		t.Errorf("Put of 65536 pieces: %d bytes", len(s))
	}
	for _, l := range [][]Piece{all[:most], all[1:], all[:256]} {
		s := Put(l)
		if len(s) != 2+5*len(l) {
			t.Fatalf("Put of %d pieces: %d bytes", len(l), len(s))
		}
		if k, n, e := Get(s); !slices.Equal(k, l) || n != len(s) || e != api.OK {
			t.Errorf("Get of %d pieces: %d pieces, %d, %d", len(l), len(k), n, e)
		}
	}
}

func TestP6_2Get(t *testing.T) {
	for _, l := range rightLists() {
		s := Put(l)
		for _, more := range []string{"", "x", "\x00\x01", s} {
			if k, n, e := Get(s + more); !slices.Equal(k, l) || n != len(s) || e != api.OK {
				t.Errorf("Get of %d pieces: %d pieces, %d, %d", len(l), len(k), n, e)
			}
		}
	}
}

func refused(t *testing.T, s string, want api.Errno) {
	t.Helper()
	if l, n, e := Get(s); len(l) != 0 || n != 0 || e != want {
		t.Errorf("Get(%.100q): %d pieces, %d, %d, not %d", s, len(l), n, e, want)
	}
}

func TestP6_2GetOfATextThatEndsTooEarly(t *testing.T) {
	for _, l := range [][]Piece{nil, {{0, "a"}}, {{0, "ab"}, {2, "c"}, {300, filled(20)}}, {{65535, filled(most)}}} {
		s := Put(l)
		for n := range len(s) {
			if n < 200 || n > len(s)-10 {
				refused(t, s[:n], api.ErrShort)
			}
		}
	}
	for _, s := range []string{"\xff\xff", "\xff\xff" + strings.Repeat("\x00\x00\x00\x00", most-1), "\x00\x02\x00\x00\x00\x01a", "\x00\x01\x00\x00\xff\xff" + filled(most-1)} {
		refused(t, s, api.ErrShort)
	}
}

func TestP6_2GetOfWrongPieces(t *testing.T) {
	for name, s := range map[string]string{
		"no Data":               "\x00\x01\x00\x00\x00\x00",
		"no Data at the end":    "\x00\x02\x00\x00\x00\x01a\x00\x01\x00\x00",
		"one place twice":       "\x00\x02\x00\x03\x00\x01a\x00\x03\x00\x01b",
		"not in order":          "\x00\x02\x00\x03\x00\x01a\x00\x02\x00\x01b",
		"one byte ahead":        "\x00\x02\x00\x00\x00\x03abc\x00\x02\x00\x01d",
		"beyond all At":         "\x00\x02\x00\x01\xff\xff" + filled(most) + "\xff\xff\x00\x01a",
		"65535 without Data":    "\xff\xff" + strings.Repeat("\x00\x00\x00\x00", most),
		"the first is at fault": "\x00\x02\x00\x00\x00\x00\x00\x03\x00\x01b",
	} {
		t.Run(name, func(t *testing.T) {
			refused(t, s, api.ErrForm)
			refused(t, s+"more", api.ErrForm)
			// ErrShort comes ahead of ErrForm, whatever stands in front.
			refused(t, s[:len(s)-1], api.ErrShort)
		})
	}
}

func TestP6_2GetTakesWhatPutMakesAlone(t *testing.T) {
	numbers := rand.New(rand.NewPCG(6, 2))
	taken := 0
	for range 200000 {
		b := make([]byte, numbers.IntN(24))
		for i := range b {
			b[i] = byte(numbers.IntN(4) * numbers.IntN(2))
		}
		s := string(b)
		l, n, e := Get(s)
		if e != api.OK {
			refused(t, s, e)
			continue
		}
		taken++
		if Put(l) != s[:n] {
			t.Fatalf("Get(%q): %v, which Put makes %q", s, l, Put(l))
		}
	}
	if taken < 1000 {
		t.Error("only", taken)
	}
}
