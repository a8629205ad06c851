package sum

import (
	"math"
	"math/rand/v2"
	"strings"
	"testing"

	"concordance/api"
)

// bitwise is the Sum as the document says it, bit by bit.
func bitwise(s string) uint32 {
	r := uint32(0xFFFFFFFF)
	for _, b := range []byte(s) {
		r ^= uint32(b)
		for range 8 {
			out := r & 1
			r >>= 1
			if out == 1 {
				r ^= 0xEDB88320
			}
		}
	}
	return ^r
}

func TestP2_1Sum(t *testing.T) {
	for s, want := range map[string]uint32{"": 0, "123456789": 0xCBF43926, "\x00": 0xD202EF8D, "\xff": 0xFF000000} {
		if got := Sum(s); got != want {
			t.Errorf("Sum(%q): %X", s, got)
		}
	}
	for a := range 256 {
		for b := range 256 {
			for _, s := range []string{string([]byte{byte(a)}), string([]byte{byte(a), byte(b)}), string([]byte{byte(b), 0, byte(a)})} {
				if Sum(s) != bitwise(s) {
					t.Fatalf("Sum(%q): %X", s, Sum(s))
				}
			}
		}
	}
	long := strings.Repeat("concordance\x00\xff\x80", 1000)
	if Sum(long) != bitwise(long) {
		t.Error("Sum of a long text")
	}
}

func TestP2_2Put(t *testing.T) {
	for _, c := range []struct {
		n, size int
		want    string
	}{
		{258, 3, "\x00\x01\x02"},
		{0, 1, "\x00"}, {1, 1, "\x01"}, {255, 1, "\xff"}, {256, 1, ""}, {256, 2, "\x01\x00"},
		{0, 7, "\x00\x00\x00\x00\x00\x00\x00"},
		{0x01020304050607, 7, "\x01\x02\x03\x04\x05\x06\x07"},
		{1<<56 - 1, 7, "\xff\xff\xff\xff\xff\xff\xff"},
		{1 << 56, 7, ""}, {math.MaxInt, 7, ""}, {math.MaxInt, 1, ""},
		{-1, 1, ""}, {-1, 7, ""}, {math.MinInt, 7, ""}, {math.MinInt, 1, ""},
		{0, 0, ""}, {1, 0, ""}, {0, -1, ""}, {0, 8, ""}, {1, 8, ""}, {-1, 8, ""},
		{1, math.MaxInt, ""}, {1, math.MinInt, ""}, {0, 1 << 61, ""}, {0, 1<<61 + 1, ""},
	} {
		if got := Put(c.n, c.size); got != c.want {
			t.Errorf("Put(%d, %d): %q", c.n, c.size, got)
		}
	}
}

func TestP2_2PutAtTheEdgeOfEverySize(t *testing.T) {
	for size := 1; size <= 7; size++ {
		edge := 1 << (8 * size)
		if got := Put(edge-1, size); got != strings.Repeat("\xff", size) {
			t.Errorf("Put(%d, %d): %q", edge-1, size, got)
		}
		if got := Put(edge, size); got != "" {
			t.Errorf("Put(%d, %d): %q", edge, size, got)
		}
	}
}

func TestP2_2Get(t *testing.T) {
	for s, want := range map[string]int{
		"": 0, "\x00": 0, "\x01": 1, "\xff": 255, "\x01\x00": 256, "\x00\x01\x02": 258,
		"\x00\x00\x00\x00\x00\x00\x05":     5,
		"\x01\x02\x03\x04\x05\x06\x07":     0x01020304050607,
		"\xff\xff\xff\xff\xff\xff\xff":     1<<56 - 1,
		"\x00\x00\x00\x00\x00\x00\x00\x05": 0,
		"\x01\x02\x03\x04\x05\x06\x07\x08": 0,
		strings.Repeat("\xff", 100):        0,
	} {
		if got := Get(s); got != want {
			t.Errorf("Get(%q): %d", s, got)
		}
	}
}

func TestP2_2GetTakesWhatPutMade(t *testing.T) {
	for size := 1; size <= 7; size++ {
		for _, n := range []int{0, 1, 127, 128, 255, 1<<(8*size-1) + 1, 1<<(8*size) - 1} {
			if got := Get(Put(n, size)); got != n {
				t.Errorf("Get(Put(%d, %d)): %d", n, size, got)
			}
		}
	}
}

func TestP2_3SealAndOpen(t *testing.T) {
	for s, want := range map[string]string{
		"":          "\x00\x00\x00\x00",
		"123456789": "123456789\x26\x39\xf4\xcb",
		"\xff":      "\xff\x00\x00\x00\xff",
	} {
		if got := Seal(s); got != want {
			t.Errorf("Seal(%q): %q", s, got)
		}
	}
	for _, s := range []string{"", "a", "abc", "\x00\x00\x00\x00", Seal("abc"), strings.Repeat("\x00\xff", 300)} {
		if got, e := Open(Seal(s)); got != s || e != api.OK {
			t.Errorf("Open(Seal(%q)): %q %d", s, got, e)
		}
	}
}

func TestP2_3OpenErrors(t *testing.T) {
	for s, want := range map[string]api.Errno{
		"": api.ErrShort, "a": api.ErrShort, "\x00\x00\x00": api.ErrShort,
		"\x00\x00\x00\x01":          api.ErrSum,
		"abcd":                      api.ErrSum,
		"\x00\x00\x00\x00\x00":      api.ErrSum,
		"123456789\xcb\xf4\x39\x26": api.ErrSum,
		Seal("abc")[:6]:             api.ErrSum,
		Seal("abc") + "\x00":        api.ErrSum,
	} {
		if got, e := Open(s); got != "" || e != want {
			t.Errorf("Open(%q): %q %d", s, got, e)
		}
	}
}

func refused(t *testing.T, spoilt []byte) {
	t.Helper()
	if got, e := Open(string(spoilt)); got != "" || e != api.ErrSum {
		t.Fatalf("Open(%q): %q %d", spoilt, got, e)
	}
}

func TestP2_3OneByteChangedIsNotOpened(t *testing.T) {
	for _, s := range []string{"", "a", "\x00\x00\x00\x00\x00", strings.Repeat("pages\xff", 9)} {
		for at := range len(s) + 4 {
			for change := 1; change < 256; change++ {
				b := []byte(Seal(s))
				b[at] ^= byte(change)
				refused(t, b)
			}
		}
	}
}

func TestP2_3UpToFourBytesChangedInARowAreNotOpened(t *testing.T) {
	numbers := rand.New(rand.NewPCG(1, 2))
	for _, s := range []string{"", "a", "\x00\x00\x00\x00\x00", strings.Repeat("pages\xff", 20)} {
		sealed := Seal(s)
		for size := 2; size <= 4; size++ {
			for at := range len(sealed) - size + 1 {
				for range 300 {
					b := []byte(sealed)
					for i := range size {
						b[at+i] ^= byte(1 + numbers.IntN(255))
					}
					refused(t, b)
				}
			}
		}
	}
}
