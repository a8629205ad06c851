package page

import (
	"hash/crc32"
	"math"
	"math/rand/v2"
	"slices"
	"strings"
	"testing"

	"concordance/api"
)

const (
	last48 = 1<<48 - 1
	bodyAt = 6
	bodyTo = 502
)

func zeros(n int) string { return strings.Repeat("\x00", n) }

// sealed has the sum behind s, lowest byte first, by the library's own.
func sealed(s string) string {
	n := crc32.ChecksumIEEE([]byte(s))
	return s + string([]byte{byte(n), byte(n >> 8), byte(n >> 16), byte(n >> 24)})
}

// laid has the bytes of a page whose six bytes of LSN and whose body are given,
// the body without the noughts at its end.
func laid(lsn, body string) string {
	return sealed(lsn + body + zeros(496-len(body)) + lsn)
}

// plain is a page in bounds, with a bit of everything.
func plain() Page {
	return Page{LSN: 7, Kind: 3, Level: 1, Right: 258, High: "zz", Entries: []Entry{
		{Key: "a", Value: "one", Marked: true}, {Key: "b"}, {Value: "\x00\xff"}, {},
	}}
}

func same(a, b Page) bool {
	return a.LSN == b.LSN && a.Kind == b.Kind && a.Level == b.Level && a.Right == b.Right &&
		a.High == b.High && slices.Equal(a.Entries, b.Entries)
}

func encoded(t *testing.T, p Page) string {
	t.Helper()
	s, e := Encode(p)
	if e != api.OK || len(s) != api.Page {
		t.Fatalf("Encode(%v): %d bytes, %d", p, len(s), e)
	}
	return s
}

func refusedPage(t *testing.T, p Page, want api.Errno) {
	t.Helper()
	if s, e := Encode(p); s != "" || e != want {
		t.Errorf("Encode(%.200v): %q %d, not %d", p, s, e, want)
	}
}

func refusedBytes(t *testing.T, s string, want api.Errno) {
	t.Helper()
	if p, e := Decode(s); !same(p, Page{}) || e != want {
		t.Errorf("Decode(%q): %v %d, not %d", s, p, e, want)
	}
}

func goesRound(t *testing.T, p Page) {
	t.Helper()
	if q, e := Decode(encoded(t, p)); !same(p, q) || e != api.OK {
		t.Errorf("Decode(Encode(%v)): %v %d", p, q, e)
	}
}

func TestSizeAndFree(t *testing.T) {
	for _, c := range []struct {
		e    Entry
		want int
	}{
		{Entry{}, 3}, {Entry{Marked: true}, 3}, {Entry{Key: "ab"}, 5}, {Entry{Value: "abc"}, 6},
		{Entry{Key: "ab", Value: "abc", Marked: true}, 8},
		{Entry{Key: zeros(64), Value: zeros(100)}, 167},
		{Entry{Key: zeros(65), Value: zeros(1000)}, 1068},
	} {
		if got := Size(c.e); got != c.want {
			t.Errorf("Size(%v): %d", c.e, got)
		}
	}
	for _, c := range []struct {
		p    Page
		want int
	}{
		{Page{}, 489}, {Page{LSN: -1, Kind: 999, Level: -7, Right: 1 << 40}, 489},
		{Page{Entries: []Entry{{Key: "ab"}}}, 484},
		{Page{High: "abc"}, 486}, {plain(), 489 - 2 - 7 - 4 - 5 - 3},
		{Page{High: zeros(64), Entries: []Entry{{Key: zeros(64), Value: zeros(100)}}}, 489 - 64 - 167},
		{Page{High: zeros(489)}, 0}, {Page{High: zeros(490)}, -1},
		{Page{Entries: make([]Entry, 163)}, 0}, {Page{Entries: make([]Entry, 164)}, -3},
		{Page{Entries: make([]Entry, 70000)}, 489 - 210000},
	} {
		if got := Free(c.p); got != c.want {
			t.Errorf("Free(%.200v): %d, not %d", c.p, got, c.want)
		}
	}
}

func TestP5_1BytesOfAPage(t *testing.T) {
	for _, c := range []struct {
		p    Page
		want string
	}{
		{Page{Kind: 1}, laid("\x00\x00\x00\x00\x00\x00", "\x01\x00\x00\x00\x00\x00\x00")},
		{Page{LSN: 0x010203040506, Kind: 0xfe, Level: 0xfd, Right: 0x0708},
			laid("\x01\x02\x03\x04\x05\x06", "\xfe\xfd\x07\x08\x00\x00\x00")},
		{Page{LSN: last48, Kind: 255, Level: 255, Right: 65535, High: "\xff"},
			laid("\xff\xff\xff\xff\xff\xff", "\xff\xff\xff\xff\x01\x00\x00\xff")},
		{plain(), laid("\x00\x00\x00\x00\x00\x07", "\x03\x01\x01\x02\x02\x00\x04zz"+
			"\x01\x01\x03aone"+"\x00\x01\x00b"+"\x00\x00\x02\x00\xff"+"\x00\x00\x00")},
		{Page{Kind: 2, High: strings.Repeat("h", 64), Entries: []Entry{{Key: strings.Repeat("k", 64), Value: strings.Repeat("v", 100), Marked: true}}},
			laid(zeros(6), "\x02\x00\x00\x00\x40\x00\x01"+strings.Repeat("h", 64)+"\x01\x40\x64"+strings.Repeat("k", 64)+strings.Repeat("v", 100))},
		{Page{Kind: 2, Entries: make([]Entry, 163)}, laid(zeros(6), "\x02\x00\x00\x00\x00\x00\xa3")},
	} {
		if s := encoded(t, c.p); s != c.want {
			t.Errorf("Encode(%v): %q, not %q", c.p, s, c.want)
		}
		if p, e := Decode(c.want); !same(p, c.p) || e != api.OK {
			t.Errorf("Decode(%q): %v %d", c.want, p, e)
		}
	}
}

func TestP5_1EdgesOfNumbers(t *testing.T) {
	for _, c := range []struct {
		set  func(p *Page, n int)
		good []int
		bad  []int
	}{
		{func(p *Page, n int) { p.LSN = n }, []int{0, 1, 255, 256, last48 - 1, last48}, []int{-1, last48 + 1, math.MinInt, math.MaxInt}},
		{func(p *Page, n int) { p.Kind = n }, []int{1, 2, 254, 255}, []int{0, -1, 256, 257, math.MinInt, math.MaxInt}},
		{func(p *Page, n int) { p.Level = n }, []int{0, 1, 254, 255}, []int{-1, 256, math.MinInt, math.MaxInt}},
		{func(p *Page, n int) { p.Right = n }, []int{0, 1, 255, 256, 65534, 65535}, []int{-1, 65536, math.MinInt, math.MaxInt}},
	} {
		p := plain()
		for _, n := range c.good {
			c.set(&p, n)
			goesRound(t, p)
		}
		for _, n := range c.bad {
			c.set(&p, n)
			refusedPage(t, p, api.ErrArg)
		}
	}
}

func TestP5_1EdgesOfLengths(t *testing.T) {
	short := Entry{Key: "k", Value: "v"}
	for _, c := range []struct {
		most int
		page func(s string) Page
	}{
		{api.MaxKey, func(s string) Page { return Page{Kind: 1, High: s} }},
		{api.MaxKey, func(s string) Page { return Page{Kind: 1, Entries: []Entry{{Key: s}}} }},
		{api.MaxValue, func(s string) Page { return Page{Kind: 1, Entries: []Entry{{Value: s}}} }},
		{api.MaxKey, func(s string) Page { return Page{Kind: 1, Entries: []Entry{short, {Key: s}, short}} }},
		{api.MaxValue, func(s string) Page { return Page{Kind: 1, Entries: []Entry{short, short, {Value: s}}} }},
	} {
		for n := range c.most + 1 {
			goesRound(t, c.page(strings.Repeat("x", n)))
		}
		for _, n := range []int{c.most + 1, 255, 256, 257, 1000} {
			refusedPage(t, c.page(strings.Repeat("x", n)), api.ErrArg)
		}
	}
}

func TestP5_1Full(t *testing.T) {
	great := Entry{Key: strings.Repeat("k", 64), Value: strings.Repeat("v", 100)}
	for _, p := range []Page{
		{Kind: 1, Entries: make([]Entry, 163)},
		{Kind: 1, High: "abc", Entries: make([]Entry, 162)},
		{Kind: 1, High: strings.Repeat("h", 64), Entries: []Entry{great, great, {Key: strings.Repeat("k", 64), Value: strings.Repeat("v", 24)}}},
		{Kind: 1, Entries: []Entry{great, great, {Key: strings.Repeat("k", 52), Value: strings.Repeat("v", 100)}}},
	} {
		if n := Free(p); n != 0 {
			t.Fatal(n)
		}
		goesRound(t, p)
		more := p
		more.Entries = slices.Clone(p.Entries)
		more.Entries[len(more.Entries)-1].Key += "x"
		if n := Free(more); n != -1 {
			t.Fatal(n)
		}
		if len(more.Entries[len(more.Entries)-1].Key) <= api.MaxKey {
			refusedPage(t, more, api.ErrFull)
		}
		more = p
		more.Entries = append(slices.Clone(p.Entries), Entry{})
		refusedPage(t, more, api.ErrFull)
	}
	for _, n := range []int{164, 256, 65535, 65536, 65537, 70000} {
		refusedPage(t, Page{Kind: 1, Entries: make([]Entry, n)}, api.ErrFull)
	}
}

func TestP5_1ArgAheadOfFull(t *testing.T) {
	full := Page{Kind: 1, Entries: make([]Entry, 200)}
	refusedPage(t, full, api.ErrFull)
	for _, spoil := range []func(p *Page){
		func(p *Page) { p.LSN = -1 }, func(p *Page) { p.LSN = last48 + 1 },
		func(p *Page) { p.Kind = 0 }, func(p *Page) { p.Kind = 256 },
		func(p *Page) { p.Level = 256 }, func(p *Page) { p.Right = 65536 },
		func(p *Page) { p.High = zeros(490) },
		func(p *Page) { p.Entries[0].Key = zeros(65) },
		func(p *Page) { p.Entries[199].Key = zeros(65) },
		func(p *Page) { p.Entries[199].Value = zeros(101) },
	} {
		p := full
		p.Entries = slices.Clone(full.Entries)
		spoil(&p)
		refusedPage(t, p, api.ErrArg)
	}
}

func TestP5_1DecodeLengths(t *testing.T) {
	s := encoded(t, plain())
	for n := range api.Page {
		refusedBytes(t, s[:n], api.ErrShort)
		refusedBytes(t, zeros(n), api.ErrShort)
	}
	for _, more := range []string{"\x00", "x", s, zeros(512), zeros(10000)} {
		refusedBytes(t, s+more, api.ErrLong)
		refusedBytes(t, zeros(512)+more, api.ErrLong)
	}
}

func TestP5_1DecodeNoughts(t *testing.T) {
	refusedBytes(t, zeros(512), api.OK)
	for at := range api.Page {
		b := make([]byte, api.Page)
		b[at] = 1
		refusedBytes(t, string(b), api.ErrSum)
	}
}

func TestP5_1ASpoiltByteAtEachPlace(t *testing.T) {
	for _, s := range []string{encoded(t, plain()), encoded(t, Page{Kind: 1}), laid(zeros(6), "")} {
		for at := range api.Page {
			for _, change := range []byte{1, 2, 0x80, 0xff, s[at]} {
				if change == 0 {
					continue
				}
				b := []byte(s)
				b[at] ^= change
				refusedBytes(t, string(b), api.ErrSum)
				if Whole(string(b)) {
					t.Error("Whole, spoilt at", at)
				}
			}
		}
	}
}

func TestP5_1TwoLSNsThatAreNotTheSame(t *testing.T) {
	good := Body(encoded(t, plain()))
	for _, body := range []string{good, zeros(496), strings.Repeat("\xff", 496)} {
		for _, lsn := range []string{zeros(6), "\x00\x00\x00\x00\x00\x07", "\x01\x02\x03\x04\x05\x06", "\xff\xff\xff\xff\xff\xff"} {
			for at := range len(lsn) {
				b := []byte(lsn)
				b[at] ^= 1
				for _, s := range []string{sealed(lsn + body + string(b)), sealed(string(b) + body + lsn)} {
					refusedBytes(t, s, api.ErrSum)
					if Whole(s) {
						t.Errorf("Whole with the LSNs %q and %q", lsn, b)
					}
				}
			}
			turned := []byte(lsn)
			slices.Reverse(turned)
			if string(turned) != lsn {
				refusedBytes(t, sealed(lsn+body+string(turned)), api.ErrSum)
			}
		}
	}
}

func TestP5_1RightSumButNoPage(t *testing.T) {
	full := strings.Repeat("\x00\x00\x00", 162)
	for name, body := range map[string]string{
		"noughts":                             "",
		"Kind 0":                              "\x00\x01\x00\x01\x00\x00\x00",
		"High of 65":                          "\x01\x00\x00\x00\x41\x00\x00" + strings.Repeat("h", 65),
		"High of 255":                         "\x01\x00\x00\x00\xff\x00\x00" + strings.Repeat("h", 255),
		"mark 02":                             "\x01\x00\x00\x00\x00\x00\x01\x02\x00\x00",
		"mark FF":                             "\x01\x00\x00\x00\x00\x00\x01\xff\x01\x01kv",
		"a second mark 02":                    "\x01\x00\x00\x00\x00\x00\x02\x01\x01\x00k\x02\x00\x00",
		"Key of 65":                           "\x01\x00\x00\x00\x00\x00\x01\x00\x41\x00" + strings.Repeat("k", 65),
		"Value of 101":                        "\x01\x00\x00\x00\x00\x00\x01\x00\x00\x65" + strings.Repeat("v", 101),
		"more behind the entries":             "\x01\x00\x00\x00\x00\x00\x01\x00\x01\x00kx",
		"more behind no entry":                "\x01\x00\x00\x00\x00\x00\x00\x00\x00\x01",
		"more behind High":                    "\x01\x00\x00\x00\x01\x00\x00hh",
		"the body's last byte":                "\x01\x00\x00\x00\x00\x00\x00" + zeros(488) + "\x01",
		"164 entries":                         "\x01\x00\x00\x00\x00\x00\xa4",
		"256 entries":                         "\x01\x00\x00\x00\x00\x01\x00",
		"65535 entries":                       "\x01\x00\x00\x00\x00\xff\xff",
		"an entry's head goes beyond":         "\x01\x00\x00\x00\x01\x00\xa3h",
		"a Key goes beyond":                   "\x01\x00\x00\x00\x00\x00\xa3" + full + "\x00\x01",
		"a Value goes beyond":                 "\x01\x00\x00\x00\x00\x00\xa3" + full + "\x00\x00\x01",
		"a Key up to the end, a Value beyond": "\x01\x00\x00\x00\x00\x00\xa2" + full[3:] + "\x01\x03\x01kkk",
	} {
		s := laid("\x00\x00\x00\x00\x00\x09", body)
		if p, e := Decode(s); !same(p, Page{}) || e != api.ErrForm {
			t.Errorf("%s: %v %d", name, p, e)
		}
		if !Whole(s) {
			t.Errorf("%s: not Whole", name)
		}
	}
}

// TestP5_1OnlyEncodesBytesAreAPage lays each value into each of the first bytes
// of a body, and the edges into all of them.
func TestP5_1OnlyEncodesBytesAreAPage(t *testing.T) {
	pages := 0
	for _, p := range []Page{plain(), {LSN: 1, Kind: 1, Entries: make([]Entry, 163)}, {Kind: 9, High: strings.Repeat("\x01", 60), Entries: []Entry{{Key: strings.Repeat("\x00", 50)}, {Value: strings.Repeat("\x01", 90)}}}} {
		body := Body(encoded(t, p))
		for at := range len(body) {
			for n := range 256 {
				if at > 40 && n > 2 && n < 254 {
					continue
				}
				b := []byte(body)
				b[at] = byte(n)
				s := laid("\x00\x00\x00\x00\x00\x07", string(b))
				q, e := Decode(s)
				if e != api.OK {
					refusedBytes(t, s, api.ErrForm)
					continue
				}
				pages++
				if again, e := Encode(q); again != s || e != api.OK {
					t.Fatalf("Decode takes %q, which Encode doesn't lay", s)
				}
			}
		}
	}
	if pages < 1000 {
		t.Error("only", pages, "pages")
	}
}

func anyText(numbers *rand.Rand, most int) string {
	b := make([]byte, numbers.IntN(most+1))
	for i := range b {
		b[i] = byte(numbers.IntN(3) * 127)
	}
	return string(b)
}

func TestP5_1AnyPageGoesRound(t *testing.T) {
	numbers := rand.New(rand.NewPCG(5, 1))
	for range 3000 {
		p := Page{LSN: numbers.IntN(1 << 48), Kind: 1 + numbers.IntN(255), Level: numbers.IntN(256), Right: numbers.IntN(65536), High: anyText(numbers, 64)}
		most := numbers.IntN(100)
		for {
			e := Entry{Key: anyText(numbers, min(most, 64)), Value: anyText(numbers, most), Marked: numbers.IntN(2) == 1}
			if Size(e) > Free(p) {
				break
			}
			p.Entries = append(p.Entries, e)
		}
		goesRound(t, p)
	}
}

func TestP5_1WhatIsHandedInStaysAsItIs(t *testing.T) {
	behind := []Entry{{Key: "a"}, {Key: "b", Marked: true}, {Key: "behind"}}
	p := plain()
	p.Entries = behind[:2]
	s := encoded(t, p)
	p.Kind = 0
	Encode(p)
	Free(p)
	if !slices.Equal(behind, []Entry{{Key: "a"}, {Key: "b", Marked: true}, {Key: "behind"}}) {
		t.Error(behind)
	}
	one, _ := Decode(s)
	two, _ := Decode(s)
	one.Entries[0].Key = "changed"
	if two.Entries[0].Key != "a" {
		t.Error("two answers share their entries")
	}
}

func TestP5_2Body(t *testing.T) {
	for _, s := range []string{encoded(t, plain()), zeros(512), strings.Repeat("0123456\xff", 64)} {
		if Body(s) != s[bodyAt:bodyTo] || len(Body(s)) != 496 {
			t.Errorf("Body(%q): %q", s, Body(s))
		}
		for _, other := range []string{"", s[:bodyTo-bodyAt], s[:511], s + "\x00", s + s} {
			if Body(other) != "" {
				t.Errorf("Body of %d bytes: %q", len(other), Body(other))
			}
		}
	}
}

func TestP5_2Build(t *testing.T) {
	plainBody := Body(encoded(t, plain()))
	for _, body := range []string{plainBody, zeros(496), strings.Repeat("\xff", 496)} {
		for lsn, bytes := range map[int]string{
			0: "\x00\x00\x00\x00\x00\x00", 7: "\x00\x00\x00\x00\x00\x07",
			0x010203040506: "\x01\x02\x03\x04\x05\x06", last48: "\xff\xff\xff\xff\xff\xff",
		} {
			s := Build(lsn, body)
			if s != laid(bytes, body) || len(s) != api.Page {
				t.Errorf("Build(%d, %q): %q", lsn, body, s)
			}
			if Body(s) != body || LSN(s) != lsn || !Whole(s) {
				t.Errorf("of Build(%d, %q): %q %d %v", lsn, body, Body(s), LSN(s), Whole(s))
			}
		}
		for _, lsn := range []int{-1, last48 + 1, math.MinInt, math.MaxInt} {
			if s := Build(lsn, body); s != "" {
				t.Errorf("Build(%d): %q", lsn, s)
			}
		}
		for _, other := range []string{"", body[:495], body + "\x00", body + body} {
			if s := Build(7, other); s != "" {
				t.Errorf("Build of %d bytes: %q", len(other), s)
			}
		}
	}
	p := plain()
	p.LSN = 9
	if Build(9, plainBody) != encoded(t, p) {
		t.Error("another LSN")
	}
}

func TestP5_2LSN(t *testing.T) {
	rest := strings.Repeat("\xee", 506)
	for bytes, want := range map[string]int{
		"\x00\x00\x00\x00\x00\x00": 0, "\x00\x00\x00\x00\x00\x01": 1,
		"\x01\x02\x03\x04\x05\x06": 0x010203040506, "\xff\xff\xff\xff\xff\xff": last48,
	} {
		if n := LSN(bytes + rest); n != want {
			t.Errorf("LSN of %q: %d", bytes, n)
		}
		for _, other := range []string{"", bytes, bytes + rest[1:], bytes + rest + "\x00"} {
			if n := LSN(other); n != 0 {
				t.Errorf("LSN of %d bytes: %d", len(other), n)
			}
		}
	}
}

func TestP5_2Whole(t *testing.T) {
	for _, s := range []string{zeros(512), encoded(t, plain()), laid(zeros(6), ""), laid("\xff\xff\xff\xff\xff\xff", strings.Repeat("\xff", 496))} {
		if !Whole(s) {
			t.Errorf("not Whole: %q", s)
		}
		for _, other := range []string{"", s[:511], s[:256], s + "\x00", s + s, s[1:] + s[:1] + "x"} {
			if Whole(other) {
				t.Errorf("Whole, of %d bytes: %q", len(other), other)
			}
		}
	}
	for _, other := range []string{strings.Repeat("\xff", 512), zeros(511) + "\x01", "\x01" + zeros(511)} {
		if Whole(other) {
			t.Errorf("Whole: %q", other)
		}
	}
	// The sum of all but the last bytes alone: right, but not of a page's length.
	if Whole(sealed(zeros(500))) || Whole(sealed(zeros(509))) || Whole(sealed("")) {
		t.Error("Whole of another length")
	}
}

func TestP5_2TornPagesAreNotWhole(t *testing.T) {
	old := encoded(t, plain())
	for _, now := range []string{Build(8, Body(old)), Build(8, zeros(496)), zeros(512), encoded(t, Page{LSN: 8, Kind: 3, Entries: []Entry{{Key: "c"}}})} {
		for _, s := range []string{old[:api.Sector] + now[api.Sector:], now[:api.Sector] + old[api.Sector:]} {
			if Whole(s) {
				t.Errorf("torn, but Whole: %q", s)
			}
			refusedBytes(t, s, api.ErrSum)
		}
	}
}
