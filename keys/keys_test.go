package keys

import (
	"math"
	"slices"
	"strings"
	"testing"

	"concordance/api"
)

// ordered has values in their order, no two the same.
func ordered() []Value {
	return []Value{
		Number(-api.MaxNumber), Number(-api.MaxNumber + 1), Number(-65537), Number(-256), Number(-1),
		Number(0), Number(1), Number(255), Number(256), Number(api.MaxNumber - 1), Number(api.MaxNumber),
		Text(""), Text("\x00"), Text("\x00\x00"), Text("\x00\x01"), Text("\x00\xff"), Text("\x01"),
		Text("\x10"), Text("\x20"), Text("a"), Text("a\x00"), Text("a\x00b"), Text("a\x01"), Text("ab"),
		Text("b"), Text("\xff"), Text("\xff\x00"), Text(strings.Repeat("\xff", api.MaxText)),
	}
}

// lists has all lists of at most two values of l.
func lists(l []Value) [][]Value {
	all := [][]Value{nil}
	for _, a := range l {
		all = append(all, []Value{a})
		for _, b := range l {
			all = append(all, []Value{a, b})
		}
	}
	return all
}

// texts has all texts of at most size bytes of those of alphabet.
func texts(alphabet string, size int) []string {
	all := []string{""}
	from := 0
	for range size {
		to := len(all)
		for _, s := range all[from:to] {
			for i := range len(alphabet) {
				all = append(all, s+alphabet[i:i+1])
			}
		}
		from = to
	}
	return all
}

func TestP1_1NumberAndTextOfAnything(t *testing.T) {
	for _, n := range []int{0, 1, -1, api.MaxNumber, api.MaxNumber + 1, math.MaxInt, math.MinInt} {
		if v := Number(n); v != (Value{N: n}) {
			t.Errorf("Number(%d): %#v", n, v)
		}
	}
	for _, s := range []string{"", "a", "\x00\xff", strings.Repeat("x", api.MaxText+1)} {
		if v := Text(s); v != (Value{Text: s, IsText: true}) {
			t.Errorf("Text(%q): %#v", s, v)
		}
	}
}

func TestP1_1CompareIsTheOrder(t *testing.T) {
	l := ordered()
	for i, a := range l {
		for j, b := range l {
			want := 0
			if i < j {
				want = -1
			} else if i > j {
				want = 1
			}
			if got := Compare(a, b); got != want {
				t.Errorf("Compare(%#v, %#v): %d", a, b, got)
			}
		}
	}
}

func TestP1_1CompareOfHandMadeValues(t *testing.T) {
	for _, c := range []struct {
		a, b Value
		want int
	}{
		{Value{Text: "z", N: 1}, Value{Text: "a", N: 1}, 0},
		{Value{Text: "a", N: 2}, Value{Text: "z", N: 1}, 1},
		{Value{Text: "a", N: 2, IsText: true}, Value{Text: "a", N: 1, IsText: true}, 0},
		{Value{Text: "a", N: 2, IsText: true}, Value{Text: "b", N: 1, IsText: true}, -1},
		{Value{Text: "z", N: 5}, Value{Text: "a", IsText: true}, -1},
		{Value{N: -5, IsText: true}, Value{Text: "a", N: 9}, 1},
		{Number(math.MinInt), Number(math.MaxInt), -1},
		{Number(math.MaxInt), Number(math.MinInt), 1},
		{Number(math.MaxInt), Text(""), -1},
	} {
		if got := Compare(c.a, c.b); got != c.want {
			t.Errorf("Compare(%#v, %#v): %d", c.a, c.b, got)
		}
	}
}

func TestP1_1PutBytes(t *testing.T) {
	full := strings.Repeat("\x00", api.MaxText)
	for _, c := range []struct {
		l    []Value
		want string
	}{
		{nil, ""},
		{[]Value{}, ""},
		{[]Value{Number(1), Text("a")}, "\x10\x01\x00\x00\x00\x00\x01\x20\x61\x00\x01"},
		{[]Value{Number(0)}, "\x10\x01\x00\x00\x00\x00\x00"},
		{[]Value{Number(-1)}, "\x10\x00\xff\xff\xff\xff\xff"},
		{[]Value{Number(api.MaxNumber)}, "\x10\x02\x00\x00\x00\x00\x00"},
		{[]Value{Number(-api.MaxNumber)}, "\x10\x00\x00\x00\x00\x00\x00"},
		{[]Value{Number(0x0102030405)}, "\x10\x01\x01\x02\x03\x04\x05"},
		{[]Value{Text("")}, "\x20\x00\x01"},
		{[]Value{Text("\x00")}, "\x20\x00\xff\x00\x01"},
		{[]Value{Text("\xff\x00\x01")}, "\x20\xff\x00\xff\x01\x00\x01"},
		{[]Value{Text(full)}, "\x20" + strings.Repeat("\x00\xff", api.MaxText) + "\x00\x01"},
		{[]Value{Text(""), Text("")}, "\x20\x00\x01\x20\x00\x01"},
	} {
		if s, e := Put(c.l); s != c.want || e != api.OK {
			t.Errorf("Put(%#v): %q %d", c.l, s, e)
		}
	}
}

func TestP1_1PutErrors(t *testing.T) {
	long := strings.Repeat("x", api.MaxText+1)
	good := []Value{Number(1), Text("a")}
	for _, c := range []struct {
		v    Value
		want api.Errno
	}{
		{Text(long), api.ErrLong},
		{Value{Text: long, N: 1, IsText: true}, api.ErrLong},
		{Value{Text: long}, api.ErrArg},
		{Value{Text: "a"}, api.ErrArg},
		{Value{Text: "a", N: 1}, api.ErrArg},
		{Value{Text: "a", N: 1, IsText: true}, api.ErrArg},
		{Value{N: 1, IsText: true}, api.ErrArg},
		{Number(api.MaxNumber + 1), api.ErrArg},
		{Number(-api.MaxNumber - 1), api.ErrArg},
		{Number(math.MaxInt), api.ErrArg},
		{Number(math.MinInt), api.ErrArg},
	} {
		other := Text(long)
		if c.want == api.ErrLong {
			other = Number(math.MaxInt)
		}
		for _, l := range [][]Value{{c.v}, {good[0], good[1], c.v}, {c.v, good[0]}, {good[0], c.v, other}} {
			if s, e := Put(l); s != "" || e != c.want {
				t.Errorf("Put(%#v): %q %d", l, s, e)
			}
		}
	}
}

func TestP1_1PutLeavesItsListAlone(t *testing.T) {
	room := []Value{Number(1), Text("a\x00"), Number(7), Text("behind")}
	kept := slices.Clone(room)
	if _, e := Put(room[:2]); e != api.OK || !slices.Equal(room, kept) {
		t.Error(room, e)
	}
}

func TestP1_2GetErrors(t *testing.T) {
	const one, a = "\x10\x01\x00\x00\x00\x00\x01", "\x20a\x00\x01"
	full, long := strings.Repeat("x", api.MaxText), strings.Repeat("x", api.MaxText+1)
	for _, c := range []struct {
		s    string
		want api.Errno
	}{
		{"\x00", api.ErrForm}, {"\x0f", api.ErrForm}, {"\x11", api.ErrForm}, {"\x21", api.ErrForm}, {"\xff", api.ErrForm},
		{"\x10", api.ErrShort}, {one[:6], api.ErrShort}, {"\x10\xff\xff\xff\xff\xff", api.ErrShort},
		{"\x20", api.ErrShort}, {"\x20a", api.ErrShort}, {"\x20a\x00", api.ErrShort}, {"\x20\x00\xff", api.ErrShort},
		{"\x20\x00\xff\x00", api.ErrShort},
		{"\x10\x02\x00\x00\x00\x00\x01", api.ErrForm}, {"\x10\xff\xff\xff\xff\xff\xff", api.ErrForm},
		{"\x20\x00\x00", api.ErrForm}, {"\x20\x00\x02", api.ErrForm}, {"\x20a\x00\xfe", api.ErrForm},
		{"\x20" + long + "\x00\x01", api.ErrLong},
		{"\x20" + full + "\x00\xff\x00\x01", api.ErrLong},
		// The length of a text is looked at when it ends.
		{"\x20" + long, api.ErrShort}, {"\x20" + long + "\x00", api.ErrShort}, {"\x20" + long + "\x00\x02", api.ErrForm},
		// What stands ahead is told first.
		{"\x20" + long + "\x00\x01\x11", api.ErrLong},
		{"\x11\x20" + long + "\x00\x01", api.ErrForm},
		{"\x20a\x00\x02\x10", api.ErrForm},
		{"\x10\x02\x00\x00\x00\x00\x01\x20", api.ErrForm},
		// Values that are well do not hide what follows.
		{one + "\x00", api.ErrForm}, {a + "\x00", api.ErrForm}, {one + a + one[:3], api.ErrShort}, {a + one + "\x20", api.ErrShort},
	} {
		if l, e := Get(c.s); len(l) != 0 || e != c.want {
			t.Errorf("Get(%q): %#v %d", c.s, l, e)
		}
	}
}

func TestP1_2GetTakesWhatPutMade(t *testing.T) {
	for _, l := range lists(ordered()) {
		s, e := Put(l)
		if e != api.OK {
			t.Fatalf("Put(%#v): %d", l, e)
		}
		if got, e := Get(s); e != api.OK || !slices.Equal(got, l) {
			t.Errorf("Get(%q): %#v %d", s, got, e)
		}
	}
	full := []Value{Text(strings.Repeat("\x00", api.MaxText)), Number(-3), Text("")}
	s, _ := Put(full)
	if got, e := Get(s); e != api.OK || !slices.Equal(got, full) {
		t.Error(got, e)
	}
}

func TestP1_2OnlyKeysAreTaken(t *testing.T) {
	for _, s := range texts("\x00\x01\x02\x20a\xff", 6) {
		for _, s := range []string{s, "\x20" + s, "\x10" + s, "\x10\x00" + s} {
			if l, e := Get(s); e == api.OK {
				if back, e := Put(l); e != api.OK || back != s {
					t.Fatalf("Get(%q): %#v, whose key is %q %d", s, l, back, e)
				}
			} else if len(l) != 0 {
				t.Fatalf("Get(%q): %#v beside %d", s, l, e)
			}
		}
	}
}

func TestP1_2KeysAreOrderedAsTheirValues(t *testing.T) {
	all := lists(ordered())
	made := make([]string, len(all))
	for i, l := range all {
		made[i], _ = Put(l)
	}
	for i, a := range all {
		for j, b := range all {
			if strings.Compare(made[i], made[j]) != slices.CompareFunc(a, b, Compare) {
				t.Fatalf("%#v and %#v: keys %q and %q", a, b, made[i], made[j])
			}
		}
	}
}

func TestP1_3After(t *testing.T) {
	for s, want := range map[string]string{
		"": "", "\xff": "", "\xff\xff\xff": "",
		"a": "b", "ab": "ac", "a\xff": "b", "a\xff\xff": "b", "a\xffb": "a\xffc",
		"\x00": "\x01", "a\x00": "a\x01", "\xfe": "\xff", "\xfe\xff": "\xff", "\xff\x00": "\xff\x01",
		"a\x7f": "a\x80", "a\x80": "a\x81", "a\x80\xff": "a\x81", "\xc3\xa9": "\xc3\xaa", "a\xff\xfe": "a\xff\xff",
	} {
		if got := After(s); got != want {
			t.Errorf("After(%q): %q", s, got)
		}
	}
}

func TestP1_3AfterIsTheLeast(t *testing.T) {
	all := texts("\x00\x01a\xfe\xff", 4)
	for _, s := range texts("\x00a\xfe\xff", 3) {
		after, far := After(s), s+strings.Repeat("\xff", 9)
		if after != "" && after <= far {
			t.Errorf("After(%q): %q isn't behind %q", s, after, far)
		}
		for _, other := range all {
			if other > far && (after == "" || other < after) {
				t.Errorf("After(%q): %q, but %q is behind all too", s, after, other)
			}
		}
	}
}
