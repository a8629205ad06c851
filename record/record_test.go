package record

import (
	"fmt"
	"math"
	"math/rand/v2"
	"slices"
	"strings"
	"testing"

	"concordance/api"
	"concordance/patch"
)

const (
	last48 = 1<<48 - 1
	most   = 65535
	// bare is how many bytes a record has without Undo and Pages.
	bare = 18
)

func filled(n int) string { return strings.Repeat("d", n) }

// number in so many bytes, the highest first.
func number(n, size int) string {
	var b []byte
	for i := size - 1; i >= 0; i-- {
		b = append(b, byte(n>>(8*i)))
	}
	return string(b)
}

// laid is a record's bytes as the document says them.
func laid(r Record) string {
	s := number(r.LSN, 6) + number(r.Txn, 6) + number(r.Kind, 1) + number(len(r.Undo), 2) + r.Undo
	s += number(r.Undone, 2) + number(len(r.Pages), 1)
	for _, c := range r.Pages {
		s += number(c.Page, 2) + number(len(c.Pieces), 2)
		for _, p := range c.Pieces {
			s += number(p.At, 2) + number(len(p.Data), 2) + p.Data
		}
	}
	return s
}

func same(a, b Record) bool {
	pages := slices.EqualFunc(a.Pages, b.Pages, func(x, y Changed) bool {
		return x.Page == y.Page && slices.Equal(x.Pieces, y.Pieces)
	})
	a.Pages, b.Pages = nil, nil
	return pages && a.LSN == b.LSN && a.Txn == b.Txn && a.Kind == b.Kind && a.Undo == b.Undo && a.Undone == b.Undone
}

func plain() Record {
	return Record{LSN: 0x010203040506, Txn: 258, Kind: Commit, Undo: "undo", Undone: 772, Pages: []Changed{
		{Page: 513, Pieces: []patch.Piece{{At: 1, Data: "x"}, {At: 260, Data: "yz"}}},
		{Page: 0},
		{Page: most, Pieces: []patch.Piece{{At: 0, Data: "\x00\xff"}}},
	}}
}

// goesRound tells where a record isn't put as the document says, and taken again.
func goesRound(t *testing.T, name string, r Record) {
	t.Helper()
	s, e := Put(r)
	if s != laid(r) || e != api.OK {
		t.Errorf("%s: Put: %.100q %d", name, s, e)
	}
	if got, e := Get(s); !same(got, r) || e != api.OK {
		t.Errorf("%s: Get: %.100v %d", name, got, e)
	}
}

func notPut(t *testing.T, name string, r Record, want api.Errno) {
	t.Helper()
	if s, e := Put(r); s != "" || e != want {
		t.Errorf("%s: %d bytes, %d, not %d", name, len(s), e, want)
	}
}

func notGot(t *testing.T, s string, want api.Errno) {
	t.Helper()
	if r, e := Get(s); !same(r, Record{}) || e != want {
		t.Errorf("Get(%.100q): %.100v %d, not %d", s, r, e, want)
	}
}

func TestKinds(t *testing.T) {
	if Change != 1 || Commit != 2 || Ended != 3 || State != 4 {
		t.Error(Change, Commit, Ended, State)
	}
}

func TestP7_1Bytes(t *testing.T) {
	for want, r := range map[string]Record{
		"\x00\x00\x00\x00\x00\x00" + "\x00\x00\x00\x00\x00\x00" + "\x04" + "\x00\x00" + "\x00\x00" + "\x00": {Kind: State},
		"\x00\x00\x00\x00\x00\x05" + "\x00\x00\x00\x00\x00\x02" + "\x01" + "\x00\x01u" + "\x00\x01" + "\x01" + "\x00\x03" + "\x00\x01\x00\x01\x00\x01x": {
			LSN: 5, Txn: 2, Kind: Change, Undo: "u", Undone: 1, Pages: []Changed{{3, []patch.Piece{{At: 1, Data: "x"}}}}},
		"\x01\x02\x03\x04\x05\x06" + "\x00\x00\x00\x00\x01\x02" + "\x02" + "\x00\x04undo" + "\x03\x04" + "\x03" +
			"\x02\x01" + "\x00\x02\x00\x01\x00\x01x\x01\x04\x00\x02yz" + "\x00\x00" + "\x00\x00" + "\xff\xff" + "\x00\x01\x00\x00\x00\x02\x00\xff": plain(),
	} {
		if s, e := Put(r); s != want || e != api.OK {
			t.Errorf("Put(%v): %q %d", r, s, e)
		}
		if got, e := Get(want); !same(got, r) || e != api.OK {
			t.Errorf("Get(%q): %v %d", want, got, e)
		}
	}
}

// wrongPieces has lists of pieces that aren't right, by what is wrong in them.
func wrongPieces() map[string][]patch.Piece {
	return map[string][]patch.Piece{
		"At -1":          {{At: -1, Data: "a"}},
		"At 65536":       {{At: 65536, Data: "a"}},
		"no Data":        {{At: 0, Data: ""}},
		"65536 of Data":  {{At: 0, Data: filled(65536)}},
		"not in order":   {{At: 3, Data: "a"}, {At: 2, Data: "b"}},
		"one byte ahead": {{At: 0, Data: "abc"}, {At: 2, Data: "d"}},
		"no Data behind": {{At: 0, Data: "a"}, {At: 1, Data: ""}},
	}
}

func TestP7_1BoundsThatARecordHas(t *testing.T) {
	for name, change := range map[string]func(*Record){
		"LSN 0":         func(r *Record) { r.LSN = 0 },
		"the last LSN":  func(r *Record) { r.LSN = last48 },
		"Txn 0":         func(r *Record) { r.Txn = 0 },
		"the last Txn":  func(r *Record) { r.Txn = last48 },
		"Kind 1":        func(r *Record) { r.Kind = 1 },
		"Kind 3":        func(r *Record) { r.Kind = 3 },
		"Kind 4":        func(r *Record) { r.Kind = 4 },
		"no Undo":       func(r *Record) { r.Undo = "" },
		"Undone 0":      func(r *Record) { r.Undone = 0 },
		"Undone 65535":  func(r *Record) { r.Undone = most },
		"no Pages":      func(r *Record) { r.Pages = nil },
		"an empty list": func(r *Record) { r.Pages = []Changed{} },
		"255 Pages":     func(r *Record) { r.Pages = make([]Changed, 255) },
		"Page 0":        func(r *Record) { r.Pages[1].Page = 0 },
		"Page 65535":    func(r *Record) { r.Pages[1].Page = most },
		"a Page twice":  func(r *Record) { r.Pages[1].Page = r.Pages[0].Page },
		"At 65535":      func(r *Record) { r.Pages[1].Pieces = []patch.Piece{{At: most, Data: "a"}} },
		"they touch":    func(r *Record) { r.Pages[1].Pieces = []patch.Piece{{At: 0, Data: "ab"}, {At: 2, Data: "c"}} },
	} {
		r := plain()
		change(&r)
		goesRound(t, name, r)
	}
}

func TestP7_1BoundsThatARecordHasNot(t *testing.T) {
	changes := map[string]func(*Record){
		"256 Pages":         func(r *Record) { r.Pages = make([]Changed, 256) },
		"an Undo of 65536":  func(r *Record) { r.Undo = filled(most + 1) },
		"an Undo of 200000": func(r *Record) { r.Undo = filled(200000) },
		"very many Pages":   func(r *Record) { r.Pages = make([]Changed, 100000) },
		"the zero Record":   func(r *Record) { *r = Record{} },
	}
	for _, n := range []int{-1, last48 + 1, math.MinInt, math.MaxInt} {
		changes[fmt.Sprint("LSN ", n)] = func(r *Record) { r.LSN = n }
		changes[fmt.Sprint("Txn ", n)] = func(r *Record) { r.Txn = n }
	}
	for _, n := range []int{0, 5, -1, 255, 257, math.MinInt, math.MaxInt} {
		changes[fmt.Sprint("Kind ", n)] = func(r *Record) { r.Kind = n }
	}
	for _, n := range []int{-1, most + 1, math.MinInt, math.MaxInt} {
		changes[fmt.Sprint("Undone ", n)] = func(r *Record) { r.Undone = n }
		for i := range 3 {
			changes[fmt.Sprint("Page ", n, " at ", i)] = func(r *Record) { r.Pages[i].Page = n }
		}
	}
	for name, l := range wrongPieces() {
		for i := range 3 {
			changes[fmt.Sprint(name, " at ", i)] = func(r *Record) { r.Pages[i].Pieces = l }
		}
	}
	for name, change := range changes {
		r := plain()
		change(&r)
		notPut(t, name, r, api.ErrArg)
		// ErrArg comes ahead of ErrLong.
		r = plain()
		r.Undo = filled(most)
		change(&r)
		notPut(t, name+", too long", r, api.ErrArg)
		r = plain()
		r.Pages[0].Pieces = []patch.Piece{{At: 0, Data: filled(most)}}
		change(&r)
		notPut(t, name+", with too long pieces", r, api.ErrArg)
	}
}

func TestP7_1TheLongestRecord(t *testing.T) {
	room := api.MaxRecord - bare
	ones := func(n int) []patch.Piece {
		l := make([]patch.Piece, n)
		for i := range l {
			l[i] = patch.Piece{At: i, Data: "x"}
		}
		return l
	}
	manyPages := func(more int) Record {
		r := Record{Kind: State, Pages: make([]Changed, 255)}
		for i := range r.Pages {
			r.Pages[i] = Changed{Page: i, Pieces: []patch.Piece{{At: i, Data: filled(50)}}}
		}
		r.Pages[254].Pieces[0].Data = filled(50 + room - 255*58 + more)
		return r
	}
	for name, of := range map[string]func(more int) Record{
		"Undo": func(more int) Record { return Record{Kind: Ended, Undo: filled(room + more)} },
		"a piece": func(more int) Record {
			return Record{Kind: Change, Pages: []Changed{{1, []patch.Piece{{At: 0, Data: filled(room - 8 + more)}}}}}
		},
		"the last of many pages": manyPages,
		"Undo behind which there are pages": func(more int) Record {
			return Record{Kind: Change, Undo: filled(room - 2*4 - 5*100 + more), Pages: []Changed{{Pieces: ones(100)}, {}}}
		},
	} {
		r := of(0)
		goesRound(t, name, r)
		if s, _ := Put(r); len(s) != api.MaxRecord {
			t.Errorf("%s: %d bytes", name, len(s))
		}
		goesRound(t, name+" less one", of(-1))
		notPut(t, name+" and one", of(1), api.ErrLong)
		notPut(t, name+" and many", of(10000), api.ErrLong)
		notGot(t, laid(of(1)), api.ErrLong)
	}
	for _, n := range []int{api.MaxRecord, most - 1, most, most + 1} {
		// Also more pieces than their Put can count: right they are.
		notPut(t, "very many pieces", Record{Kind: Change, Pages: []Changed{{Pieces: ones(n)}}}, api.ErrLong)
		notPut(t, "and a page behind", Record{Kind: Change, Pages: []Changed{{Pieces: ones(n)}, {}}}, api.ErrLong)
	}
	notPut(t, "an Undo of 65535", Record{Kind: Change, Undo: filled(most)}, api.ErrLong)
	notPut(t, "long pages", Record{Kind: Change, Pages: slices.Repeat([]Changed{{Pieces: []patch.Piece{{At: 0, Data: filled(most)}}}}, 255)}, api.ErrLong)
}

func TestP7_1GetOfATextThatEndsTooEarly(t *testing.T) {
	for _, r := range []Record{plain(), {Kind: State}, {Kind: Change, Undo: filled(300)}, {Kind: Change, Pages: make([]Changed, 255)}} {
		s := laid(r)
		for n := range len(s) {
			notGot(t, s[:n], api.ErrShort)
		}
		// ErrShort comes ahead of ErrForm of a Kind that is none.
		r.Kind = 0
		for n := range len(s) {
			notGot(t, laid(r)[:n], api.ErrShort)
		}
	}
	head := strings.Repeat("\x00", 12) + "\x01"
	notGot(t, head+"\xff\xff"+filled(api.MaxRecord-15), api.ErrShort)
	notGot(t, head+"\x00\x00\x00\x00\xff", api.ErrShort)
}

func TestP7_1GetOfBytesThatAreLeft(t *testing.T) {
	for _, r := range []Record{plain(), {Kind: State}, {Kind: Change, Undo: "u"}} {
		for _, more := range []string{"x", "\x00", "\x00\x00\x00\x00", laid(r)} {
			notGot(t, laid(r)+more, api.ErrTail)
			// ErrTail comes ahead of ErrForm of a Kind.
			k := r
			k.Kind = 5
			notGot(t, laid(k)+more, api.ErrTail)
		}
	}
	r := Record{Kind: Change, Undo: filled(api.MaxRecord - bare - 1)}
	notGot(t, laid(r)+"x", api.ErrTail)
	notGot(t, laid(r)+"xx", api.ErrLong)
}

func TestP7_1GetOfTooManyBytes(t *testing.T) {
	for _, n := range []int{api.MaxRecord + 1, most, 200000} {
		notGot(t, strings.Repeat("\x00", n), api.ErrLong)
		notGot(t, strings.Repeat("\xff", n), api.ErrLong)
		notGot(t, laid(plain())+filled(n), api.ErrLong)
	}
	notGot(t, strings.Repeat("\x00", api.MaxRecord), api.ErrTail)
	notGot(t, strings.Repeat("\xff", api.MaxRecord), api.ErrShort)
}

func TestP7_1GetOfKinds(t *testing.T) {
	for kind := range 256 {
		r := plain()
		r.Kind = kind
		if kind >= 1 && kind <= 4 {
			goesRound(t, "a Kind", r)
		} else {
			notGot(t, laid(r), api.ErrForm)
		}
	}
}

func TestP7_1GetOfPiecesThatAreNotRight(t *testing.T) {
	head := laid(Record{Kind: Change, Undo: "u"})
	head = head[:len(head)-1]
	for _, wrong := range []string{
		"\x00\x01\x00\x00\x00\x00",
		"\x00\x02\x00\x03\x00\x01a\x00\x02\x00\x01b",
		"\x00\x02\x00\x00\x00\x03abc\x00\x02\x00\x01d",
	} {
		one, two := head+"\x01\x00\x07"+wrong, head+"\x02\x00\x07\x00\x00\x00\x08"+wrong
		notGot(t, one, api.ErrForm)
		notGot(t, two, api.ErrForm)
		// The first from the front: these are ahead of a page that isn't there,
		// of bytes that are left, and of the Kind.
		notGot(t, one+"more", api.ErrForm)
		notGot(t, head+"\x02\x00\x07"+wrong, api.ErrForm)
		notGot(t, head+"\xff\x00\x07"+wrong+"\x00", api.ErrForm)
		// And behind what ends too early in front.
		for n := range len(one) {
			notGot(t, one[:n], api.ErrShort)
		}
		for n := range len(two) {
			notGot(t, two[:n], api.ErrShort)
		}
		notGot(t, head+"\x02\x00\x07\x00\x01\x00\x00\x00\x09"+wrong[:4], api.ErrShort)
	}
}

func anyPieces(numbers *rand.Rand) []patch.Piece {
	var l []patch.Piece
	at := 0
	for range numbers.IntN(4) {
		at += numbers.IntN(300)
		data := filled(1 + numbers.IntN(20))
		l = append(l, patch.Piece{At: at, Data: data})
		at += len(data)
	}
	return l
}

func TestP7_1AnyRecordGoesRound(t *testing.T) {
	numbers := rand.New(rand.NewPCG(7, 1))
	for range 3000 {
		r := Record{LSN: numbers.IntN(1 << 48), Txn: numbers.IntN(1 << 48), Kind: 1 + numbers.IntN(4), Undo: filled(numbers.IntN(300)), Undone: numbers.IntN(1 << 16)}
		for range numbers.IntN(5) {
			r.Pages = append(r.Pages, Changed{numbers.IntN(1 << 16), anyPieces(numbers)})
		}
		goesRound(t, "any", r)
	}
}

func TestP7_1GetTakesWhatPutMakesAlone(t *testing.T) {
	numbers := rand.New(rand.NewPCG(7, 2))
	taken := 0
	for range 200000 {
		b := make([]byte, bare-4+numbers.IntN(24))
		for i := range b {
			b[i] = byte(numbers.IntN(4) * (numbers.IntN(5) / 4))
		}
		b[12] = byte(numbers.IntN(6))
		r, e := Get(string(b))
		if e != api.OK {
			notGot(t, string(b), e)
			continue
		}
		taken++
		if s, e := Put(r); s != string(b) || e != api.OK {
			t.Fatalf("Get(%q): %v, which Put makes %q %d", b, r, s, e)
		}
	}
	if taken < 1000 {
		t.Error("only", taken)
	}
}

func TestP7_1WhatIsHandedInStaysAsItIs(t *testing.T) {
	behind := []Changed{{1, []patch.Piece{{At: 0, Data: "a"}, {At: 9, Data: "b"}, {At: 5, Data: "behind"}}}, {Page: -1}}
	r := Record{Kind: Change, Pages: behind[:1]}
	r.Pages[0].Pieces = r.Pages[0].Pieces[:2]
	s, _ := Put(r)
	if all := behind[0].Pieces[:3]; behind[1].Page != -1 || all[2] != (patch.Piece{At: 5, Data: "behind"}) || all[0].Data != "a" {
		t.Error(behind)
	}
	one, _ := Get(s)
	two, _ := Get(s)
	one.Pages[0].Pieces[0].Data = "changed"
	one.Pages[0].Page = 9
	if !same(two, r) {
		t.Error("two answers share their pages")
	}
}

func TestP7_2Join(t *testing.T) {
	for _, c := range []struct {
		l    []string
		want string
	}{
		{nil, "\x00\x00"}, {[]string{}, "\x00\x00"},
		{[]string{"a", ""}, "\x00\x02\x00\x01a\x00\x00"},
		{[]string{""}, "\x00\x01\x00\x00"},
		{[]string{"\x00\xff", filled(258), "\x00\x01"}, "\x00\x03\x00\x02\x00\xff\x01\x02" + filled(258) + "\x00\x02\x00\x01"},
		{[]string{filled(most)}, "\x00\x01\xff\xff" + filled(most)},
		{make([]string, most), "\xff\xff" + strings.Repeat("\x00\x00", most)},
	} {
		s := Join(c.l)
		if s != c.want {
			t.Errorf("Join of %d texts: %.100q", len(c.l), s)
		}
		if l, e := Split(s); !slices.Equal(l, c.l) || e != api.OK {
			t.Errorf("Split of %d texts: %d, %d", len(c.l), len(l), e)
		}
	}
	for _, l := range [][]string{
		make([]string, most+1), make([]string, 200000),
		{filled(most + 1)}, {"a", filled(most + 1)}, {filled(200000), "a"}, {"", "", filled(most + 1), ""},
	} {
		if s := Join(l); s != "" {
			t.Errorf("Join of %d texts: %.100q", len(l), s)
		}
	}
}

func notSplit(t *testing.T, s string, want api.Errno) {
	t.Helper()
	if l, e := Split(s); len(l) != 0 || e != want {
		t.Errorf("Split(%.100q): %d texts, %d, not %d", s, len(l), e, want)
	}
}

func TestP7_2SplitErrors(t *testing.T) {
	for _, l := range [][]string{nil, {""}, {"a"}, {"a", ""}, {"", "", "abc"}, {filled(300), "b"}} {
		s := Join(l)
		for n := range len(s) {
			notSplit(t, s[:n], api.ErrShort)
		}
		for _, more := range []string{"\x00", "x", "\x00\x00", s} {
			notSplit(t, s+more, api.ErrTail)
		}
	}
	notSplit(t, "\xff\xff", api.ErrShort)
	notSplit(t, "\xff\xff"+strings.Repeat("\x00\x00", most-1), api.ErrShort)
	notSplit(t, "\xff\xff"+strings.Repeat("\x00\x00", most)+"\x00", api.ErrTail)
	notSplit(t, "\x00\x01\xff\xff"+filled(most-1), api.ErrShort)
	notSplit(t, "\x00\x01\xff\xff"+filled(most+1), api.ErrTail)
}

func TestP7_2SplitTakesWhatJoinMakesAlone(t *testing.T) {
	numbers := rand.New(rand.NewPCG(7, 3))
	taken := 0
	for range 200000 {
		b := make([]byte, numbers.IntN(16))
		for i := range b {
			b[i] = byte(numbers.IntN(3) * numbers.IntN(2))
		}
		l, e := Split(string(b))
		if e != api.OK {
			notSplit(t, string(b), e)
			continue
		}
		taken++
		if Join(l) != string(b) {
			t.Fatalf("Split(%q): %q, which Join makes %q", b, l, Join(l))
		}
	}
	if taken < 1000 {
		t.Error("only", taken)
	}
}

func TestP7_2WhatIsHandedInStaysAsItIs(t *testing.T) {
	behind := []string{"a", "b", "behind"}
	s := Join(behind[:2])
	if !slices.Equal(behind, []string{"a", "b", "behind"}) {
		t.Error(behind)
	}
	one, _ := Split(s)
	two, _ := Split(s)
	one[0] = "changed"
	if two[0] != "a" {
		t.Error("two answers share their texts")
	}
}
