package wal

import (
	"fmt"
	"hash/crc32"
	"maps"
	"math"
	"slices"
	"strings"
	"testing"

	"concordance/api"
	"concordance/device"
)

const room = 242

// number in so many bytes, the highest first.
func number(n, size int) string {
	var b []byte
	for i := size - 1; i >= 0; i-- {
		b = append(b, byte(n>>(8*i)))
	}
	return string(b)
}

func sealed(s string) string {
	n := crc32.ChecksumIEEE([]byte(s))
	return s + string([]byte{byte(n), byte(n >> 8), byte(n >> 16), byte(n >> 24)})
}

func padded(s string, size int) string {
	return s + strings.Repeat("\x00", size-len(s))
}

func masterSector(epoch, side int) string {
	return padded(sealed("CM"+number(epoch, 6)+number(side, 1)), api.Sector)
}

func blockSector(epoch, place int, bytes string) string {
	return sealed(number(epoch, 6) + number(place, 2) + number(len(bytes), 2) + padded(bytes, room))
}

// frames are texts, each behind two bytes of its length.
func frames(texts ...string) string {
	s := ""
	for _, text := range texts {
		s += number(len(text), 2) + text
	}
	return s
}

// filled has so many bytes, no two of which in a row are the same.
func filled(n int) string {
	b := make([]byte, n)
	for i := range b {
		b[i] = byte(i%251 + 1)
	}
	return string(b)
}

// laid are the sectors of a half with these bytes, by their numbers, from the
// sector from on.
func laid(from, epoch int, bytes string) map[int]string {
	sectors := map[int]string{}
	for place := 0; place*room < len(bytes); place++ {
		sectors[from+place] = blockSector(epoch, place, bytes[place*room:min(len(bytes), place*room+room)])
	}
	return sectors
}

func together(all ...map[int]string) map[int]string {
	sectors := map[int]string{}
	for _, m := range all {
		maps.Copy(sectors, m)
	}
	return sectors
}

func made(t *testing.T, size int, sectors map[int]string) *device.Device {
	t.Helper()
	d, e := device.New(size)
	if e != api.OK {
		t.Fatal("New", size, e)
	}
	for i, s := range sectors {
		if e := d.Write(i, s); e != api.OK {
			t.Fatal("Write", i, e)
		}
	}
	d.Sync()
	return d
}

func image(d *device.Device) []string {
	l := make([]string, d.Size())
	for i := range l {
		l[i], _ = d.Read(i)
	}
	return l
}

// has tells which sectors aren't these, or, where there is none of these, noughts.
func has(t *testing.T, d *device.Device, sectors map[int]string) {
	t.Helper()
	for i, s := range image(d) {
		if want := padded(sectors[i], api.Sector); s != want {
			t.Errorf("sector %d: %.40q.., not %.40q..", i, s, want)
		}
	}
}

func formatted(t *testing.T, d *device.Device, at, half int, first string) {
	t.Helper()
	if e := Format(d, at, half, first); e != api.OK {
		t.Fatal("Format", at, half, len(first), e)
	}
}

// opened tells where the log doesn't have these texts.
func opened(t *testing.T, d *device.Device, at, half int, want ...string) *Log {
	t.Helper()
	l, texts, e := Open(d, at, half)
	if e != api.OK || l == nil || !slices.Equal(texts, want) {
		t.Fatalf("Open: %.200q %d, not %.200q", texts, e, want)
	}
	return l
}

func notOpened(t *testing.T, name string, d *device.Device, at, half int, want api.Errno) {
	t.Helper()
	if l, texts, e := Open(d, at, half); l != nil || len(texts) != 0 || e != want {
		t.Errorf("%s: Open: %v %.100q %d, not %d", name, l, texts, e, want)
	}
}

// begun is a log on a device of its own, with one text, "begin", of the number 1.
func begun(t *testing.T, half int) (*device.Device, *Log) {
	t.Helper()
	d := made(t, 2+2*half, nil)
	formatted(t, d, 0, half, "first")
	l := opened(t, d, 0, half, "first")
	if e := l.Switch(1, "begin"); e != api.OK {
		t.Fatal("Switch", e)
	}
	return d, l
}

func appends(t *testing.T, l *Log, lsn int, text string) {
	t.Helper()
	if e := l.Append(lsn, text); e != api.OK {
		t.Fatal("Append", lsn, len(text), e)
	}
}

func flushes(t *testing.T, l *Log) {
	t.Helper()
	if e := l.Flush(); e != api.OK {
		t.Fatal("Flush", e)
	}
}

func switches(t *testing.T, l *Log, lsn int, text string) {
	t.Helper()
	if e := l.Switch(lsn, text); e != api.OK {
		t.Fatal("Switch", lsn, len(text), e)
	}
}

func tells(t *testing.T, l *Log, room, last, lasts int) {
	t.Helper()
	if n := l.Room(); n != room {
		t.Errorf("Room: %d, not %d", n, room)
	}
	if a, b := l.Marks(); a != last || b != lasts {
		t.Errorf("Marks: %d %d, not %d %d", a, b, last, lasts)
	}
}

// command of a device: a Write, or, where the sector is below 0, a Sync.
type command struct {
	sector int
	data   string
}

func syncs() command { return command{sector: -1} }

// failed has the sectors behind some commands, behind which the power failed.
func failed(sectors []string, done []command, keep []int) []string {
	sectors = slices.Clone(sectors)
	waiting := 0
	for i, c := range done {
		rest := slices.IndexFunc(done[i:], func(c command) bool { return c.sector < 0 })
		switch {
		case c.sector < 0:
			waiting = 0
		case rest >= 0 || len(keep) > 0 && keep[waiting%len(keep)] != 0:
			sectors[c.sector] = padded(c.data, api.Sector)
			waiting++
		default:
			waiting++
		}
	}
	return sectors
}

// ordered tells where a call doesn't do just these commands, in this order: the
// power fails at each of them, and what was done shows in the sectors.
func ordered(t *testing.T, setup func() (*device.Device, func() api.Errno), want ...command) {
	t.Helper()
	for n := range len(want) + 1 {
		for _, keep := range [][]int{nil, {1}, {0, 1}, {1, 0}, {1, 0, 0}} {
			d, call := setup()
			sectors := image(d)
			d.Fuse(n+1, keep...)
			e := call()
			if n == len(want) {
				if e != api.OK || d.Off() {
					t.Errorf("%d, off %v behind all", e, d.Off())
				}
			} else if e != api.ErrPower || !d.Off() {
				t.Errorf("%d, off %v at the command %d", e, d.Off(), n)
			}
			d.On()
			if !slices.Equal(image(d), failed(sectors, want[:n], keep)) {
				t.Errorf("other sectors at the command %d, keep %v", n, keep)
			}
		}
	}
}

func TestP8_1FormatLaysTheHalfAndTheMaster(t *testing.T) {
	for _, half := range []int{1, 2, 3, 68, 512} {
		for _, at := range []int{0, 1, 5} {
			for _, size := range []int{1, 239, 240, 241, 482, 483, api.MaxRecord} {
				if size+2 > room*half {
					continue
				}
				first := filled(size)
				d := made(t, at+2+2*half+2, nil)
				_, before := d.Open()
				formatted(t, d, at, half, first)
				want := laid(at+2, 1, frames(first))
				if waiting, done := d.Open(); waiting != 0 || done != before+len(want)+3 {
					t.Errorf("at %d, half %d, %d bytes: %d commands, %d wait", at, half, size, done-before, waiting)
				}
				want[at+1] = masterSector(1, 0)
				has(t, d, want)
				opened(t, d, at, half, first)
			}
		}
	}
}

// TestP8_1TheBytes has the bytes of the smallest log written out.
func TestP8_1TheBytes(t *testing.T) {
	d := made(t, 4, nil)
	formatted(t, d, 0, 1, "a")
	has(t, d, map[int]string{
		1: sealed("CM\x00\x00\x00\x00\x00\x01\x00"),
		2: sealed("\x00\x00\x00\x00\x00\x01" + "\x00\x00" + "\x00\x03" + "\x00\x01a" + strings.Repeat("\x00", 239)),
	})
	l := opened(t, d, 0, 1, "a")
	switches(t, l, 7, "bc")
	has(t, d, map[int]string{
		0: sealed("CM\x00\x00\x00\x00\x00\x02\x01"),
		1: sealed("CM\x00\x00\x00\x00\x00\x01\x00"),
		2: sealed("\x00\x00\x00\x00\x00\x01" + "\x00\x00" + "\x00\x03" + "\x00\x01a" + strings.Repeat("\x00", 239)),
		3: sealed("\x00\x00\x00\x00\x00\x02" + "\x00\x00" + "\x00\x04" + "\x00\x02bc" + strings.Repeat("\x00", 238)),
	})
}

func TestP8_1FormatInOrder(t *testing.T) {
	first := filled(2*room + 5)
	for _, old := range []map[int]string{nil, {1: masterSector(4, 1), 5: blockSector(6, 3, ""), 3: "anything"}} {
		epoch := 1
		if old != nil {
			epoch = 7
		}
		half := laid(3, epoch, frames(first))
		ordered(t, func() (*device.Device, func() api.Errno) {
			d := made(t, 10, old)
			return d, func() api.Errno { return Format(d, 1, 3, first) }
		}, command{3, half[3]}, command{4, half[4]}, command{5, half[5]}, syncs(), command{2, masterSector(epoch, 0)}, syncs())
	}
}

func TestP8_1WrongArguments(t *testing.T) {
	type arguments struct{ size, at, half int }
	for a, right := range map[arguments]bool{
		{4, 0, 1}: true, {3, 0, 1}: false, {5, 1, 1}: true, {4, 1, 1}: false, {4, 2, 1}: false,
		{6, 0, 2}: true, {5, 0, 2}: false, {1, 0, 1}: false, {10, 4, 2}: true, {9, 4, 2}: false,
		{1026, 0, 512}: true, {1025, 0, 512}: false, {1027, 1, 512}: true, {4096, 3070, 512}: true, {4096, 3071, 512}: false,
		{4096, 0, 513}: false, {4096, 0, 0}: false, {4096, 0, -1}: false, {4096, -1, 1}: false, {4096, math.MinInt, 1}: false,
		{4096, math.MaxInt, 1}: false, {4096, 4092, 1}: true, {4096, 4093, 1}: false,
		{4096, 0, math.MaxInt}: false, {4096, 0, math.MinInt}: false, {4096, math.MaxInt, math.MaxInt}: false,
		{4096, -4096, 512}: false, {4096, math.MaxInt - 3, 2}: false,
	} {
		name := fmt.Sprint(a)
		d := made(t, a.size, nil)
		if right {
			notOpened(t, name, d, a.at, a.half, api.ErrForm)
			formatted(t, d, a.at, a.half, "first")
			opened(t, d, a.at, a.half, "first")
			continue
		}
		for _, off := range []bool{false, true} {
			if off {
				d.Blow()
			}
			if e := Format(d, a.at, a.half, "first"); e != api.ErrArg {
				t.Errorf("%s: Format: %d", name, e)
			}
			notOpened(t, name, d, a.at, a.half, api.ErrArg)
		}
		if waiting, done := d.Open(); waiting != 0 || done != 1 {
			t.Errorf("%s: %d wait, %d commands", name, waiting, done)
		}
	}
	if e := Format(nil, 0, 1, "first"); e != api.ErrArg {
		t.Error(e)
	}
	notOpened(t, "nil", nil, 0, 1, api.ErrArg)
}

func TestP8_1FormatOfTexts(t *testing.T) {
	for _, c := range []struct {
		half, size int
		want       api.Errno
	}{
		{1, 0, api.ErrArg}, {1, 1, api.OK}, {1, 240, api.OK}, {1, 241, api.ErrArg}, {1, api.MaxRecord, api.ErrArg},
		{2, 482, api.OK}, {2, 483, api.ErrArg}, {512, 0, api.ErrArg}, {512, api.MaxRecord, api.OK}, {512, api.MaxRecord + 1, api.ErrArg},
		{512, 65536, api.ErrArg}, {512, 200000, api.ErrArg},
		{67, 67*room - 2, api.OK}, {67, 67*room - 1, api.ErrArg}, {67, api.MaxRecord, api.ErrArg}, {68, api.MaxRecord, api.OK}, {68, 68*room - 2, api.ErrArg},
		{271, 65536, api.ErrArg}, {271, 65534, api.ErrArg},
	} {
		d := made(t, 2+2*c.half, nil)
		if e := Format(d, 0, c.half, filled(c.size)); e != c.want {
			t.Errorf("half %d, %d bytes: %d", c.half, c.size, e)
		}
		if c.want == api.OK {
			opened(t, d, 0, c.half, filled(c.size))
			continue
		}
		if waiting, done := d.Open(); waiting != 0 || done != 1 {
			t.Errorf("half %d, %d bytes: %d wait, %d commands", c.half, c.size, waiting, done)
		}
		d.Blow()
		if e := Format(d, 0, c.half, filled(c.size)); e != api.ErrArg {
			t.Errorf("half %d, %d bytes, off: %d", c.half, c.size, e)
		}
	}
}

func TestP8_1ThePowerIsOff(t *testing.T) {
	d := made(t, 4, nil)
	d.Blow()
	if e := Format(d, 0, 1, "a"); e != api.ErrPower {
		t.Error(e)
	}
	notOpened(t, "off", d, 0, 1, api.ErrPower)
	d.On()
	notOpened(t, "on", d, 0, 1, api.ErrForm)
	formatted(t, d, 0, 1, "a")
	d.Blow()
	notOpened(t, "off", d, 0, 1, api.ErrPower)
	d.On()
	opened(t, d, 0, 1, "a")
}

// tellingSectors have epochs, or seem to, each with the one that it tells.
func tellingSectors() map[string]int {
	return map[string]int{
		"":                                  0,
		masterSector(9, 0):                  9,
		masterSector(8, 1):                  8,
		masterSector(9, 2):                  0,
		masterSector(0, 0):                  0,
		masterSector(1<<48-2, 0):            1<<48 - 2,
		sealed("CN" + number(9, 6) + "0"):   0,
		"x" + masterSector(9, 0)[1:]:        0,
		blockSector(9, 0, ""):               9,
		blockSector(9, 1, "ab"):             9,
		blockSector(9, 65535, filled(room)): 9,
		blockSector(1<<40, 0, "a"):          1 << 40,
		blockSector(9, 0, "a")[:255] + "x":  0,
		"x" + blockSector(9, 0, "a")[1:]:    0,
		sealed(number(9, 6) + number(0, 2) + number(243, 2) + filled(242)):      0,
		sealed(number(9, 6) + number(0, 2) + number(243, 2) + padded("", room)): 0,
		sealed(number(9, 6) + number(0, 2) + number(1, 2) + filled(242)):        0,
		filled(256): 0,
	}
}

func TestP8_1AGreaterEpochThanAnySectorTells(t *testing.T) {
	for s, epoch := range tellingSectors() {
		for i := range 10 { // the sectors 0 and 9 aren't the log's
			d := made(t, 10, map[int]string{i: s})
			formatted(t, d, 1, 3, "first")
			want := epoch + 1
			if i < 1 || i > 8 {
				want = 1
			}
			has(t, d, together(map[int]string{i: s}, map[int]string{1 + want%2: masterSector(want, 0)}, laid(3, want, frames("first"))))
			opened(t, d, 1, 3, "first")
		}
	}
}

func TestP8_1FormatAgain(t *testing.T) {
	for switched := range 4 {
		d := made(t, 8, nil)
		formatted(t, d, 0, 3, filled(700))
		l := opened(t, d, 0, 3, filled(700))
		for i := range switched {
			switches(t, l, i, filled(600+i))
		}
		formatted(t, d, 0, 3, "again")
		l = opened(t, d, 0, 3, "again")
		if s, _ := d.Read(2); s != blockSector(switched+2, 0, frames("again")) {
			t.Errorf("not in the half 0: %q", s)
		}
		// What stood there before isn't taken for more of it.
		switches(t, l, 1, "begin")
		appends(t, l, 2, filled(room-2-7))
		flushes(t, l)
		opened(t, d, 0, 3, "begin", filled(room-2-7))
	}
}

func TestP8_1NoMaster(t *testing.T) {
	half := laid(2, 1, frames("first"))
	spoilt := func(at int) string {
		b := []byte(masterSector(1, 0))
		b[at] ^= 0x40
		return string(b)
	}
	for at := range 13 {
		notOpened(t, fmt.Sprint("spoilt at ", at), made(t, 4, together(half, map[int]string{1: spoilt(at)})), 0, 1, api.ErrForm)
		notOpened(t, fmt.Sprint("both spoilt at ", at), made(t, 4, together(half, map[int]string{0: spoilt(at), 1: spoilt(at)})), 0, 1, api.ErrForm)
		opened(t, made(t, 4, together(half, map[int]string{0: spoilt(at), 1: masterSector(1, 0)})), 0, 1, "first")
		opened(t, made(t, 4, together(half, map[int]string{0: masterSector(1, 0), 1: spoilt(at)})), 0, 1, "first")
	}
	for name, s := range map[string]string{
		"noughts": "", "the half 2": masterSector(1, 2), "the half 255": masterSector(1, 255), "the epoch 0": masterSector(0, 0),
		"other letters": sealed("MC" + number(1, 6) + "\x00"), "a half's sector": blockSector(1, 0, frames("first")),
		"one byte less": sealed("CM" + number(1, 6)), "one more": sealed("CM" + number(1, 6) + "\x00\x00"), "anything": filled(256),
	} {
		notOpened(t, name, made(t, 4, together(half, map[int]string{0: s, 1: s})), 0, 1, api.ErrForm)
		// A master elsewhere is none.
		notOpened(t, name, made(t, 6, together(half, map[int]string{0: s, 3: masterSector(1, 0), 4: masterSector(1, 0)})), 0, 1, api.ErrForm)
	}
	// The order: there is no master, and no whole text either.
	notOpened(t, "nothing", made(t, 4, nil), 0, 1, api.ErrForm)
}

func TestP8_1NoWholeText(t *testing.T) {
	first := blockSector(5, 0, frames("first"))
	spoilt := []byte(first)
	spoilt[100] ^= 1
	for name, sectors := range map[string]map[int]string{
		"nothing":                           {},
		"the other half":                    {5: first},
		"not at its place":                  {3: first},
		"another place":                     {2: blockSector(5, 1, frames("first"))},
		"an epoch less":                     {2: blockSector(4, 0, frames("first"))},
		"an epoch more":                     {2: blockSector(6, 0, frames("first"))},
		"spoilt":                            {2: string(spoilt)},
		"no byte counts":                    {2: blockSector(5, 0, "")},
		"one byte":                          {2: blockSector(5, 0, "\x00")},
		"a length alone":                    {2: blockSector(5, 0, "\x00\x05")},
		"one byte less":                     {2: blockSector(5, 0, frames("first")[:6])},
		"a text beyond":                     {2: blockSector(5, 0, "\xff\xff"+filled(240)), 3: blockSector(5, 1, filled(room)), 4: blockSector(5, 2, filled(room))},
		"a text beyond one that isn't":      {2: blockSector(5, 0, "\x01\x00"+filled(240)), 3: blockSector(4, 1, filled(room))},
		"a text beyond one that isn't full": {2: blockSector(5, 0, "\x01\x00"+filled(239)), 3: blockSector(5, 1, filled(room))},
		"243 bytes count":                   {2: sealed(number(5, 6) + number(0, 2) + number(243, 2) + "\x00\x01a" + strings.Repeat("\x00", 239))},
		"no noughts behind":                 {2: sealed(number(5, 6) + number(0, 2) + number(3, 2) + "\x00\x01a" + filled(239))},
		"a master":                          {2: masterSector(5, 0)},
	} {
		sectors = together(sectors, map[int]string{1: masterSector(5, 0)})
		notOpened(t, name, made(t, 8, sectors), 0, 3, api.ErrCorrupt)
		d := made(t, 8, sectors)
		d.Blow()
		notOpened(t, name, d, 0, 3, api.ErrPower)
	}
}

func TestP8_1OpenTellsTheTexts(t *testing.T) {
	a, b := filled(room-2), filled(100) // with a the first sector is full
	long := frames(filled(2*room + 9))
	for name, c := range map[string]struct {
		sectors map[int]string
		want    []string
	}{
		"one":                       {map[int]string{1: masterSector(5, 0), 2: blockSector(5, 0, frames("first"))}, []string{"first"}},
		"several":                   {map[int]string{1: masterSector(5, 0), 2: blockSector(5, 0, frames("first", "second", "x"))}, []string{"first", "second", "x"}},
		"in the half 1":             {map[int]string{1: masterSector(5, 1), 5: blockSector(5, 0, frames("first")), 2: blockSector(5, 0, frames("wrong"))}, []string{"first"}},
		"in the master 0":           {map[int]string{0: masterSector(5, 0), 2: blockSector(5, 0, frames("first"))}, []string{"first"}},
		"the greater epoch":         {map[int]string{0: masterSector(4, 0), 1: masterSector(5, 1), 2: blockSector(4, 0, frames("old")), 5: blockSector(5, 0, frames("first"))}, []string{"first"}},
		"the greater epoch at 0":    {map[int]string{0: masterSector(5, 1), 1: masterSector(4, 0), 2: blockSector(4, 0, frames("old")), 5: blockSector(5, 0, frames("first"))}, []string{"first"}},
		"the greatest epoch":        {map[int]string{0: masterSector(1<<48-1, 1), 1: masterSector(1<<48-2, 0), 5: blockSector(1<<48-1, 0, frames("first"))}, []string{"first"}},
		"the next one isn't there":  {map[int]string{1: masterSector(5, 0), 2: blockSector(5, 0, frames(a)), 4: blockSector(5, 2, frames("wrong"))}, []string{a}},
		"the next one is elder":     {map[int]string{1: masterSector(5, 0), 2: blockSector(5, 0, frames(a)), 3: blockSector(3, 1, frames("wrong"))}, []string{a}},
		"the next one is newer":     {map[int]string{1: masterSector(5, 0), 2: blockSector(5, 0, frames(a)), 3: blockSector(7, 1, frames("wrong"))}, []string{a}},
		"the next one is elsewhere": {map[int]string{1: masterSector(5, 0), 2: blockSector(5, 0, frames(a)), 3: blockSector(5, 2, frames("wrong"))}, []string{a}},
		"the next one is spoilt":    {map[int]string{1: masterSector(5, 0), 2: blockSector(5, 0, frames(a)), 3: "x" + blockSector(5, 1, frames("wrong"))[1:]}, []string{a}},
		"the next one is there":     {map[int]string{1: masterSector(5, 0), 2: blockSector(5, 0, frames(a)), 3: blockSector(5, 1, frames(b))}, []string{a, b}},
		"the first isn't full":      {map[int]string{1: masterSector(5, 0), 2: blockSector(5, 0, frames(a[1:])), 3: blockSector(5, 1, frames("wrong"))}, []string{a[1:]}},
		"the second isn't full":     {map[int]string{1: masterSector(5, 0), 2: blockSector(5, 0, frames(a)), 3: blockSector(5, 1, frames(a[1:])), 4: blockSector(5, 2, frames("wrong"))}, []string{a, a[1:]}},
		"all are full":              {map[int]string{1: masterSector(5, 0), 2: blockSector(5, 0, frames(a)), 3: blockSector(5, 1, frames(a)), 4: blockSector(5, 2, frames(a)), 5: blockSector(5, 3, frames("wrong"))}, []string{a, a, a}},
		"one over three sectors":    {together(map[int]string{1: masterSector(5, 0)}, laid(2, 5, long)), []string{filled(2*room + 9)}},
		"an end that isn't whole":   {map[int]string{1: masterSector(5, 0), 2: blockSector(5, 0, frames("first", "second")+"\x00\x09wrong")}, []string{"first", "second"}},
		"half a length at the end":  {map[int]string{1: masterSector(5, 0), 2: blockSector(5, 0, frames("first")+"\x00")}, []string{"first"}},
		"a length at the end":       {map[int]string{1: masterSector(5, 0), 2: blockSector(5, 0, frames("first")+"\x00\x01")}, []string{"first"}},
	} {
		t.Run(name, func(t *testing.T) {
			d := made(t, 8, c.sectors)
			opened(t, d, 0, 3, c.want...)
			has(t, d, c.sectors)
			if waiting, done := d.Open(); waiting != 0 || done != len(c.sectors)+1 {
				t.Errorf("%d wait, %d commands", waiting, done)
			}
		})
	}
}

func TestP8_1ALogThatWasOpened(t *testing.T) {
	d := made(t, 8, nil)
	formatted(t, d, 0, 3, "first")
	l := opened(t, d, 0, 3, "first")
	_, before := d.Open()
	for range 2 {
		for _, text := range []string{"", "a", filled(800), filled(api.MaxRecord + 1)} {
			if e := l.Append(5, text); e != api.ErrState {
				t.Error(len(text), e)
			}
		}
		if e := l.Flush(); e != api.ErrState {
			t.Error(e)
		}
		tells(t, l, 0, 0, 0)
		// A Switch that isn't OK changes nothing.
		if e := l.Switch(5, ""); e != api.ErrLong {
			t.Error(e)
		}
		if e := l.Switch(5, filled(800)); e != api.ErrLog {
			t.Error(e)
		}
	}
	d.Blow()
	if a, f := l.Append(5, "a"), l.Flush(); a != api.ErrPower || f != api.ErrPower {
		t.Error(a, f)
	}
	tells(t, l, 0, 0, 0)
	d.On()
	if _, done := d.Open(); done != before {
		t.Error(done-before, "commands")
	}
	opened(t, d, 0, 3, "first")
	switches(t, l, 5, "begin")
	tells(t, l, 3*room-7, 5, 5)
	appends(t, l, 6, "a")
	flushes(t, l)
	opened(t, d, 0, 3, "begin", "a")
}

func TestP8_1TwoAnswersShareNothing(t *testing.T) {
	d := made(t, 4, nil)
	formatted(t, d, 0, 1, "first")
	_, one, _ := Open(d, 0, 1)
	one[0] = "changed"
	opened(t, d, 0, 1, "first")
}

func TestNilAndZeroLogs(t *testing.T) {
	var none *Log
	for _, text := range []string{"", "a", filled(api.MaxRecord + 1)} {
		if a, s := none.Append(1, text), none.Switch(1, text); a != api.ErrArg || s != api.ErrArg {
			t.Error(len(text), a, s)
		}
	}
	if e := none.Flush(); e != api.ErrArg {
		t.Error(e)
	}
	tells(t, none, 0, 0, 0)
	zero := &Log{} // made by hand: it doesn't panic
	zero.Append(1, "a")
	zero.Flush()
	zero.Switch(1, "a")
	tells(t, zero, 0, 0, 0)
}

func TestP8_2AppendErrors(t *testing.T) {
	d, l := begun(t, 68)
	_, before := d.Open()
	for i, c := range []struct {
		size int
		want api.Errno
	}{{0, api.ErrLong}, {api.MaxRecord + 1, api.ErrLong}, {65536, api.ErrLong}, {200000, api.ErrLong}, {api.MaxRecord, api.OK}, {1, api.OK}, {0, api.ErrLong}} {
		last, lasts := l.Marks()
		room := l.Room()
		if e := l.Append(10+i, filled(c.size)); e != c.want {
			t.Errorf("%d bytes: %d", c.size, e)
		}
		if c.want == api.OK {
			room, last = room-2-c.size, 10+i
		}
		tells(t, l, room, last, lasts)
	}
	left := l.Room()
	for _, size := range []int{left - 1, left, left + 1, api.MaxRecord} {
		if e := l.Append(99, filled(size)); e != api.ErrLog {
			t.Errorf("%d bytes into %d: %d", size, left, e)
		}
		// ErrLong comes ahead of ErrLog.
		if a, b := l.Append(99, ""), l.Append(99, filled(api.MaxRecord+1)); a != api.ErrLong || b != api.ErrLong {
			t.Error(a, b)
		}
	}
	tells(t, l, left, 15, 1)
	if _, done := d.Open(); done != before {
		t.Error(done-before, "commands")
	}
	flushes(t, l)
	opened(t, d, 0, 68, "begin", filled(api.MaxRecord), filled(1))
}

func TestP8_2ATextThatFillsAHalfsRoomJust(t *testing.T) {
	for _, half := range []int{1, 2, 3, 60} {
		d, l := begun(t, half)
		left := room*half - 7
		tells(t, l, left, 1, 1)
		if e := l.Append(2, filled(left-1)); e != api.ErrLog {
			t.Error(half, e)
		}
		tells(t, l, left, 1, 1)
		appends(t, l, 3, filled(left-2))
		tells(t, l, 0, 3, 1)
		for _, text := range []string{"a", "ab"} {
			if e := l.Append(4, text); e != api.ErrLog {
				t.Error(half, e)
			}
		}
		flushes(t, l)
		tells(t, l, 0, 3, 3)
		if e := l.Append(4, "a"); e != api.ErrLog {
			t.Error(half, e)
		}
		opened(t, d, 0, half, "begin", filled(left-2))
		// The room of the half that counts then.
		switches(t, l, 5, "next")
		tells(t, l, room*half-6, 5, 5)
		opened(t, d, 0, half, "next")
	}
}

func TestP8_2RoomOfUpToThreeBytes(t *testing.T) {
	for left := range 4 {
		_, l := begun(t, 1)
		appends(t, l, 2, filled(room-7-2-left))
		tells(t, l, left, 2, 1)
		want := api.ErrLog
		if left == 3 {
			want = api.OK
		}
		if e := l.Append(3, "a"); e != want {
			t.Error(left, e)
		}
	}
}

func TestP8_2Marks(t *testing.T) {
	d, l := begun(t, 3)
	for _, n := range []int{9, 4, 0, -5, math.MaxInt, math.MinInt, 7} {
		_, lasts := l.Marks()
		appends(t, l, n, "a")
		tells(t, l, l.Room(), n, lasts)
		if n == 4 || n == 0 || n == math.MinInt {
			flushes(t, l)
			tells(t, l, l.Room(), n, n)
		}
	}
	// The same number again is another text.
	flushes(t, l)
	appends(t, l, 7, "b")
	_, before := d.Open()
	flushes(t, l)
	if _, done := d.Open(); done != before+2 {
		t.Error(done-before, "commands")
	}
	tells(t, l, 3*room-7-8*3, 7, 7)
}

func TestP8_2FlushWithNothingAppended(t *testing.T) {
	d, l := begun(t, 3)
	idle := func() {
		t.Helper()
		_, before := d.Open()
		d.Fuse(1)
		flushes(t, l)
		flushes(t, l)
		if e := l.Append(9, ""); e != api.ErrLong {
			t.Error(e)
		}
		flushes(t, l)
		if _, done := d.Open(); done != before || d.Off() {
			t.Error(done-before, "commands")
		}
		d.On()
	}
	idle()
	for _, size := range []int{1, room - 2 - 7 - 3, room - 2, 5} { // the second and the third one end at a sector's end
		appends(t, l, 2, filled(size))
		flushes(t, l)
		idle()
	}
	switches(t, l, 3, "begin")
	idle()
	// What was appended ahead of a Switch isn't there any more.
	appends(t, l, 4, "a")
	switches(t, l, 5, "next")
	idle()
	tells(t, l, 3*room-6, 5, 5)
	opened(t, d, 0, 3, "next")
}

func TestP8_2FlushInOrder(t *testing.T) {
	// What was flushed ahead, what is appended since, and which places change.
	for _, c := range []struct {
		ahead, behind []int
		first, last   int
	}{
		{nil, []int{1}, 0, 0}, {nil, []int{1, 2, 3}, 0, 0}, {nil, []int{233}, 0, 0}, {nil, []int{234}, 0, 1}, {nil, []int{700}, 0, 2},
		{[]int{5}, []int{6}, 0, 0}, {[]int{5, 6}, []int{500}, 0, 2}, {[]int{300}, []int{1}, 1, 1}, {[]int{300, 200}, []int{100}, 2, 2},
		{[]int{300}, []int{300}, 1, 2},
		{[]int{233}, []int{1}, 1, 1}, {[]int{233}, []int{240}, 1, 1}, {[]int{233}, []int{241}, 1, 2}, {[]int{233, 240}, []int{3}, 2, 2},
		{[]int{475}, []int{9, 9}, 2, 2}, {[]int{232}, []int{1}, 0, 1}, {[]int{234}, []int{1}, 1, 1},
	} {
		bytes := frames("begin")
		for _, size := range slices.Concat(c.ahead, c.behind) {
			bytes += frames(filled(size))
		}
		half := laid(6, 2, bytes) // behind Format the half 1 is the one of the epoch 2
		var want []command
		for place := c.first; place <= c.last; place++ {
			want = append(want, command{6 + place, half[6+place]})
		}
		ordered(t, func() (*device.Device, func() api.Errno) {
			d := made(t, 12, nil)
			formatted(t, d, 0, 4, filled(900))
			l := opened(t, d, 0, 4, filled(900))
			switches(t, l, 1, "begin")
			for _, size := range c.ahead {
				appends(t, l, 2, filled(size))
				flushes(t, l)
			}
			for _, size := range c.behind {
				appends(t, l, 3, filled(size))
			}
			return d, l.Flush
		}, append(want, syncs())...)
	}
}

func TestP8_2AsManyFlushesAsMayBe(t *testing.T) {
	for _, sizes := range [][]int{{1}, {2, 3}, {120}, {119, 119}, {240}, {240, 1, 237}, {300, 5}, {10, 20, 30, 40, 50, 60, 70, 80}} {
		d, l := begun(t, 6)
		bytes := frames("begin")
		texts := []string{"begin"}
		for i := 0; ; i++ {
			text := filled(sizes[i%len(sizes)])
			e := l.Append(i, text)
			if len(bytes)+2+len(text) > 6*room {
				if e != api.ErrLog {
					t.Error(sizes, i, e)
				}
				break
			}
			if e != api.OK {
				t.Fatal(sizes, i, e)
			}
			bytes += frames(text)
			texts = append(texts, text)
			if i%3 != 1 {
				flushes(t, l)
				has(t, d, together(map[int]string{0: masterSector(2, 1), 1: masterSector(1, 0)}, laid(2, 1, frames("first")), laid(8, 2, bytes)))
				opened(t, d, 0, 6, texts...)
			}
			if l.Room() != 6*room-len(bytes) {
				t.Error(sizes, i, l.Room())
			}
		}
	}
}

func TestP8_2ThePowerIsOff(t *testing.T) {
	d, l := begun(t, 2)
	appends(t, l, 2, "two")
	d.Blow()
	for _, text := range []string{"", "a", filled(1000), filled(api.MaxRecord + 1)} {
		if a, s := l.Append(3, text), l.Switch(3, text); a != api.ErrPower || s != api.ErrPower {
			t.Error(len(text), a, s)
		}
	}
	if e := l.Flush(); e != api.ErrPower {
		t.Error(e)
	}
	tells(t, l, 2*room-7-5, 2, 1)
	d.On()
	// It didn't fail in a call of this log.
	opened(t, d, 0, 2, "begin")
	appends(t, l, 3, "three")
	flushes(t, l)
	tells(t, l, 2*room-7-5-7, 3, 3)
	opened(t, d, 0, 2, "begin", "two", "three")
	d.Blow()
	d.On()
	switches(t, l, 4, "next")
	opened(t, d, 0, 2, "next")
}

func TestP8_2ThePowerFailedInACall(t *testing.T) {
	for name, call := range map[string]func(*Log) api.Errno{
		"Flush":  func(l *Log) api.Errno { return l.Flush() },
		"Switch": func(l *Log) api.Errno { return l.Switch(9, "nine") },
	} {
		for n := 1; ; n++ {
			d, l := begun(t, 2)
			appends(t, l, 2, filled(room))
			d.Fuse(n, 1)
			e := call(l)
			if e == api.OK {
				if n < 4 {
					t.Error(name, n)
				}
				break
			}
			for range 3 {
				for _, text := range []string{"", "a", filled(1000), filled(api.MaxRecord + 1)} {
					if a, s := l.Append(3, text), l.Switch(3, text); a != api.ErrPower || s != api.ErrPower {
						t.Error(name, n, len(text), a, s)
					}
				}
				if f := l.Flush(); e != api.ErrPower || f != api.ErrPower {
					t.Error(name, n, e, f)
				}
				tells(t, l, 2*room-7-2-room, 2, 1)
				d.On()
			}
			// Another log of the same device goes on.
			l, _, _ = Open(d, 0, 2)
			switches(t, l, 4, "next")
			opened(t, d, 0, 2, "next")
		}
	}
	// Of a log that awaits Switch, too.
	d := made(t, 6, nil)
	formatted(t, d, 0, 2, "first")
	l := opened(t, d, 0, 2, "first")
	d.Fuse(2)
	e := l.Switch(1, "begin")
	d.On()
	if a, f, s := l.Append(1, "a"), l.Flush(), l.Switch(1, "begin"); e != api.ErrPower || a != api.ErrPower || f != api.ErrPower || s != api.ErrPower {
		t.Error(e, a, f, s)
	}
	tells(t, l, 0, 0, 0)
	opened(t, d, 0, 2, "first")
}

func TestP8_3SwitchInOrder(t *testing.T) {
	for _, size := range []int{1, 240, 241, 482, 483, 4*room - 2} {
		text := filled(size)
		for ahead := range 3 {
			side, epoch := (ahead+1)%2, ahead+2
			var want []command
			half := laid(3+4*side, epoch, frames(text))
			for i := range len(half) {
				want = append(want, command{3 + 4*side + i, half[3+4*side+i]})
			}
			want = append(want, syncs(), command{1 + epoch%2, masterSector(epoch, side)}, syncs())
			ordered(t, func() (*device.Device, func() api.Errno) {
				d := made(t, 12, map[int]string{0: "ahead", 11: "behind"})
				formatted(t, d, 1, 4, "first")
				l := opened(t, d, 1, 4, "first")
				for i := range ahead {
					switches(t, l, i, filled(900-i))
					appends(t, l, i, "more")
					flushes(t, l)
				}
				return d, func() api.Errno { return l.Switch(9, text) }
			}, want...)
		}
	}
}

func TestP8_3SwitchAgainAndAgain(t *testing.T) {
	d, l := begun(t, 2)
	old := "begin"
	for epoch := 3; epoch < 40; epoch++ {
		appends(t, l, 100, "flushed")
		flushes(t, l)
		appends(t, l, 101, "not flushed")
		if epoch%5 == 0 { // a log that is opened goes on where the other one was
			l = opened(t, d, 0, 2, old, "flushed")
		}
		text := filled(11 * epoch)
		switches(t, l, epoch, text)
		tells(t, l, 2*room-2-len(text), epoch, epoch)
		opened(t, d, 0, 2, text)
		if s, _ := d.Read(epoch % 2); s != masterSector(epoch, (epoch+1)%2) {
			t.Errorf("master of the epoch %d: %q", epoch, s)
		}
		old = text
	}
}

func TestP8_3TwoLogsOfOnePlace(t *testing.T) {
	d, one := begun(t, 2)
	two := opened(t, d, 0, 2, "begin")
	for i := range 3 {
		switches(t, two, i, "two")
		opened(t, d, 0, 2, "two")
		switches(t, one, i, "one")
		opened(t, d, 0, 2, "one")
		formatted(t, d, 0, 2, "first")
	}
	// Which half doesn't count, and which epochs there are, the sectors tell.
	has(t, d, together(map[int]string{0: masterSector(10, 0), 1: masterSector(11, 0)}, laid(2, 11, frames("first")), laid(4, 9, frames("two"))))
}

func TestP8_3SwitchErrors(t *testing.T) {
	for _, half := range []int{1, 3, 67, 68, 271, 512} {
		d, l := begun(t, half)
		appends(t, l, 2, "two")
		_, before := d.Open()
		for size, want := range map[int]api.Errno{
			0: api.ErrLong, api.MaxRecord + 1: api.ErrLong, 65536: api.ErrLong, 200000: api.ErrLong,
			room*half - 1: api.ErrLog, room * half: api.ErrLog, api.MaxRecord: api.ErrLog,
		} {
			if want == api.ErrLog && size+2 <= room*half {
				continue
			}
			if want == api.ErrLog && size > api.MaxRecord {
				want = api.ErrLong // it comes ahead
			}
			if e := l.Switch(9, filled(size)); e != want {
				t.Errorf("half %d, %d bytes: %d", half, size, e)
			}
		}
		tells(t, l, room*half-7-5, 2, 1)
		if _, done := d.Open(); done != before {
			t.Error(half, done-before, "commands")
		}
		flushes(t, l)
		opened(t, d, 0, half, "begin", "two")
		text := filled(min(api.MaxRecord, room*half-2))
		switches(t, l, 9, text)
		tells(t, l, room*half-2-len(text), 9, 9)
		opened(t, d, 0, half, text)
	}
}

func TestP8_3AppendBehindALongSwitch(t *testing.T) {
	for _, size := range []int{room - 3, room - 2, room - 1, 2*room - 2, 2*room + 1} {
		d, l := begun(t, 4)
		switches(t, l, 2, filled(size))
		appends(t, l, 3, "three")
		flushes(t, l)
		has(t, d, together(map[int]string{0: masterSector(2, 1), 1: masterSector(3, 0)}, laid(2, 3, frames(filled(size), "three")), laid(6, 2, frames("begin"))))
	}
}

func TestP8_3AGreaterEpochThanAnySectorTells(t *testing.T) {
	for s, epoch := range tellingSectors() {
		for i := 3; i < 8; i++ { // places that aren't those of the masters, and of the text that counts
			for _, late := range []bool{false, true} {
				d := made(t, 8, nil)
				formatted(t, d, 0, 3, "first")
				l := opened(t, d, 0, 3, "first")
				if s != "" {
					d.Write(i, s)
					d.Sync()
				}
				if !late {
					l = opened(t, d, 0, 3, "first")
				}
				switches(t, l, 1, "begin")
				want := max(epoch, 1) + 1
				sectors := together(map[int]string{1: masterSector(1, 0), i: s}, laid(2, 1, frames("first")))
				has(t, d, together(sectors, map[int]string{want % 2: masterSector(want, 1)}, laid(5, want, frames("begin"))))
				opened(t, d, 0, 3, "begin")
			}
		}
	}
}

func TestP8_3NoGreaterEpochIsLeft(t *testing.T) {
	sectors := map[int]string{0: masterSector(5, 0), 1: masterSector(1<<48-1, 0), 2: blockSector(1<<48-1, 0, frames("first"))}
	d := made(t, 4, sectors)
	l := opened(t, d, 0, 1, "first")
	for range 2 {
		if e := l.Switch(1, "begin"); e != api.ErrCorrupt {
			t.Error(e)
		}
		if e := l.Append(1, "a"); e != api.ErrState {
			t.Error(e)
		}
		if e := Format(d, 0, 1, "again"); e != api.ErrCorrupt {
			t.Error(e)
		}
	}
	has(t, d, sectors)
}
