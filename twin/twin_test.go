package twin

import (
	"fmt"
	"hash/crc32"
	"maps"
	"math"
	"slices"
	"strings"
	"testing"

	"concordance/api"
	"concordance/device"
)

// number in so many bytes, the highest first.
func number(n, size int) string {
	var b []byte
	for i := size - 1; i >= 0; i-- {
		b = append(b, byte(n>>(8*i)))
	}
	return string(b)
}

func sealed(s string) string {
	n := crc32.ChecksumIEEE([]byte(s))
	return s + string([]byte{byte(n), byte(n >> 8), byte(n >> 16), byte(n >> 24)})
}

func padded(s string, size int) string {
	return s + strings.Repeat("\x00", size-len(s))
}

// bytesOf a page with an LSN: in each of its two sectors there is its name.
func bytesOf(lsn int, name string) string {
	return sealed(number(lsn, 6) + padded(name, 400) + padded(name, 96) + number(lsn, 6))
}

var noughts = padded("", api.Page)

// torn are bytes with one's first sector, and another one's second.
func torn(one, another string) string {
	return one[:api.Sector] + another[api.Sector:]
}

func headOf(page int) string {
	return padded(sealed("CT"+number(page, 2)), api.Sector)
}

// laid are some sectors in a row, by their numbers.
func laid(from int, text string) map[int]string {
	sectors := map[int]string{}
	for i := 0; i < len(text); i += api.Sector {
		sectors[from+i/api.Sector] = text[i : i+api.Sector]
	}
	return sectors
}

func together(all ...map[int]string) map[int]string {
	sectors := map[int]string{}
	for _, m := range all {
		maps.Copy(sectors, m)
	}
	return sectors
}

func made(t *testing.T, size int, sectors map[int]string) *device.Device {
	t.Helper()
	d, e := device.New(size)
	if e != api.OK {
		t.Fatal("New", size, e)
	}
	for i, s := range sectors {
		if e := d.Write(i, s); e != api.OK {
			t.Fatal("Write", i, e)
		}
	}
	d.Sync()
	return d
}

// full device: no two of its sectors are the same, and none is noughts.
func full(t *testing.T, size int) *device.Device {
	t.Helper()
	sectors := map[int]string{}
	for i := range size {
		sectors[i] = strings.Repeat(number(i+1, 2), api.Sector/2)
	}
	return made(t, size, sectors)
}

func sectorsOf(d *device.Device) []string {
	l := make([]string, d.Size())
	for i := range l {
		l[i], _ = d.Read(i)
	}
	return l
}

func areaOf(t *testing.T, d *device.Device, at, slots, from, pages int) *Area {
	t.Helper()
	a, e := New(d, at, slots, from, pages)
	if e != api.OK || a == nil {
		t.Fatal("New", at, slots, from, pages, e)
	}
	return a
}

// reads tells where a page has other bytes.
func reads(t *testing.T, a *Area, page int, want string) {
	t.Helper()
	if s, e := a.Read(page); s != want || e != api.OK {
		t.Errorf("page %d: %.12q %d, not %.12q", page, s, e, want)
	}
}

// command of a device: a Write, or, where the sector is below 0, a Sync.
type command struct {
	sector int
	data   string
}

func (c command) do(d *device.Device) {
	if c.sector < 0 {
		d.Sync()
	} else {
		d.Write(c.sector, c.data)
	}
}

// writes of sectors in a row.
func writes(from int, text string) []command {
	var l []command
	for i := 0; i < len(text); i += api.Sector {
		l = append(l, command{from + i/api.Sector, text[i : i+api.Sector]})
	}
	return l
}

func syncs() []command { return []command{{sector: -1}} }

// does tells where a call doesn't do just these commands, in this order: the
// power fails at each of them, and what was done shows in the sectors.
func does(t *testing.T, name string, d *device.Device, call func(*device.Device) api.Errno, want ...[]command) {
	t.Helper()
	commands := slices.Concat(want...)
	for n := range len(commands) + 1 {
		for _, keep := range [][]int{nil, {1}, {0, 1}, {1, 0}, {1, 0, 0}} {
			got, model := d.Copy(), d.Copy()
			for _, c := range commands[:n] {
				c.do(model)
			}
			got.Fuse(n+1, keep...)
			e := call(got)
			if n < len(commands) {
				model.Blow(keep...)
				if e != api.ErrPower || !got.Off() {
					t.Errorf("%s: %d, off %v at the command %d", name, e, got.Off(), n)
				}
			} else if e != api.OK || got.Off() {
				t.Errorf("%s: %d, off %v behind all", name, e, got.Off())
			}
			waiting, done := got.Open()
			if w, n := model.Open(); waiting != w || done != n {
				t.Errorf("%s: %d wait, %d done, not %d, %d", name, waiting, done, w, n)
			}
			got.On()
			model.On()
			if !slices.Equal(sectorsOf(got), sectorsOf(model)) {
				t.Errorf("%s: other sectors at the command %d, keep %v", name, n, keep)
			}
		}
	}
}

func TestP9_1New(t *testing.T) {
	type arguments struct{ size, at, slots, from, pages int }
	const most = api.MaxSectors
	for x, right := range map[arguments]bool{
		{40, 0, 2, 10, 8}: true, {40, 0, 2, 5, 8}: false,
		// Slots first: they touch, or overlap by one sector.
		{10, 0, 2, 6, 2}: true, {10, 0, 2, 5, 2}: false, {10, 1, 2, 6, 2}: false, {11, 1, 2, 7, 2}: true,
		// Pages first.
		{10, 4, 2, 0, 2}: true, {10, 3, 2, 0, 2}: false, {10, 4, 2, 1, 2}: false, {11, 5, 2, 1, 2}: true,
		// One within the other, and both at the same place.
		{40, 10, 1, 0, 20}: false, {40, 0, 10, 10, 2}: false, {40, 0, 2, 0, 3}: false, {40, 7, 1, 7, 1}: false,
		// The device's end.
		{5, 0, 1, 3, 1}: true, {4, 0, 1, 3, 1}: false, {5, 2, 1, 0, 1}: true, {4, 2, 1, 0, 1}: false,
		{9, 0, 1, 3, 3}: true, {8, 0, 1, 3, 3}: false, {9, 6, 1, 0, 3}: true, {8, 6, 1, 0, 3}: false,
		{1, 0, 1, 0, 1}: false, {3, 0, 1, 3, 1}: false,
		// Below 0.
		{40, -1, 2, 10, 8}: false, {40, 0, 2, -1, 1}: false, {40, 20, 2, -1, 8}: false, {40, -6, 2, 10, 8}: false,
		{40, 20, 2, 0, 8}: true,
		// How many there are.
		{most, 0, 0, 100, 8}: false, {most, 0, 1, 100, 8}: true, {most, 0, 16, 100, 8}: true, {most, 0, 17, 100, 8}: false,
		{most, 0, -1, 100, 8}: false, {most, 0, 2, 100, 0}: false, {most, 0, 2, 100, 1}: true, {most, 0, 2, 100, -1}: false,
		{most, 0, 2, 100, api.MaxPages}: true, {most, 0, 2, 100, api.MaxPages + 1}: false,
		{most, 0, 16, 48, 800}: true, {most, 1600, 16, 0, 800}: true, {most, 1599, 16, 0, 800}: false, {most, 0, 16, 47, 800}: false,
		{most, most - 48, 16, 0, 800}: true, {most, most - 47, 16, 0, 800}: false,
		{most, 0, 16, most - 1600, 800}: true, {most, 0, 16, most - 1599, 800}: false,
		// As great and as small as they can be.
		{most, math.MaxInt, 1, 0, 1}: false, {most, math.MinInt, 1, 0, 1}: false, {most, 0, 1, math.MaxInt, 1}: false,
		{most, 0, 1, math.MinInt, 1}: false, {most, 0, math.MaxInt, 100, 1}: false, {most, 0, math.MinInt, 100, 1}: false,
		{most, 0, 1, 100, math.MaxInt}: false, {most, 0, 1, 100, math.MinInt}: false, {most, math.MaxInt - 2, 1, 0, 1}: false,
		{most, 0, 1, math.MaxInt - 1, 1}: false, {most, math.MaxInt, math.MaxInt, math.MaxInt, math.MaxInt}: false,
	} {
		d := made(t, x.size, nil)
		for range 2 {
			a, e := New(d, x.at, x.slots, x.from, x.pages)
			if right && (a == nil || e != api.OK || a.Pages() != x.pages) {
				t.Errorf("%v: %d, Pages %d", x, e, a.Pages())
			}
			if !right && (a != nil || e != api.ErrArg) {
				t.Errorf("%v: %d", x, e)
			}
			d.Blow() // and again with the power off
		}
		if waiting, done := d.Open(); waiting != 0 || done != 1 {
			t.Errorf("%v: %d wait, %d commands", x, waiting, done)
		}
	}
	if a, e := New(nil, 0, 2, 10, 8); a != nil || e != api.ErrArg {
		t.Error(a, e)
	}
}

func TestP9_1ReadsAPagesTwoSectors(t *testing.T) {
	for _, x := range []struct{ at, from, pages int }{{0, 6, 1}, {0, 6, 5}, {0, 9, 4}, {20, 0, 10}, {25, 1, 7}} {
		d := full(t, 40)
		a := areaOf(t, d, x.at, 2, x.from, x.pages)
		sectors := sectorsOf(d)
		for n := range x.pages {
			reads(t, a, n, sectors[x.from+2*n]+sectors[x.from+2*n+1])
		}
		d.Write(x.from+1, "now")
		reads(t, a, 0, sectors[x.from]+padded("now", api.Sector))
	}
}

func TestP9_1ReadOfWhatIsNoPage(t *testing.T) {
	d := full(t, 40)
	a := areaOf(t, d, 0, 2, 10, 8)
	fails := func(a *Area, page int, want api.Errno) {
		t.Helper()
		if s, e := a.Read(page); s != "" || e != want {
			t.Errorf("page %d: %.12q %d, not %d", page, s, e, want)
		}
	}
	for range 2 {
		for _, page := range []int{-1, 8, 9, 800, math.MaxInt, math.MinInt, math.MaxInt / 2, math.MinInt / 2} {
			fails(a, page, api.ErrArg)
		}
		fails(nil, 0, api.ErrArg)
		d.Blow()
	}
	fails(a, 0, api.ErrPower)
	fails(a, 7, api.ErrPower)
	d.On()
	if s, e := a.Read(7); len(s) != api.Page || e != api.OK {
		t.Error(len(s), e)
	}
}

func TestP9_1AreasOfOneDeviceGoTheirOwnWay(t *testing.T) {
	d := made(t, 40, nil)
	one, other := areaOf(t, d, 0, 1, 3, 4), areaOf(t, d, 20, 1, 23, 8)
	if e := one.Write([]Image{{3, bytesOf(1, "one")}}); e != api.OK {
		t.Error(e)
	}
	if e := other.Write([]Image{{3, bytesOf(2, "other")}}); e != api.OK {
		t.Error(e)
	}
	reads(t, one, 3, bytesOf(1, "one"))
	reads(t, other, 3, bytesOf(2, "other"))
	if one.Pages() != 4 || other.Pages() != 8 || (*Area)(nil).Pages() != 0 {
		t.Error(one.Pages(), other.Pages())
	}
}

// TestP9_2TheBytes has the sectors of the smallest area written out.
func TestP9_2TheBytes(t *testing.T) {
	d := full(t, 7)
	sectors := sectorsOf(d)
	bytes := bytesOf(5, "a")
	if e := areaOf(t, d, 1, 1, 4, 1).Write([]Image{{0, bytes}}); e != api.OK {
		t.Fatal(e)
	}
	want := []string{
		sectors[0],
		sealed("CT\x00\x00") + strings.Repeat("\x00", 248), bytes[:256], bytes[256:],
		bytes[:256], bytes[256:],
		sectors[6],
	}
	if !slices.Equal(sectorsOf(d), want) {
		t.Errorf("%.12q, not %.12q", sectorsOf(d), want)
	}
}

func TestP9_2ANumberHasTwoBytes(t *testing.T) {
	d := made(t, 3+1600, nil)
	a := areaOf(t, d, 0, 1, 3, 800)
	for page, want := range map[int]string{0: "CT\x00\x00", 1: "CT\x00\x01", 255: "CT\x00\xff", 256: "CT\x01\x00", 799: "CT\x03\x1f"} {
		bytes := bytesOf(page, "any")
		if e := a.Write([]Image{{page, bytes}}); e != api.OK {
			t.Error(page, e)
		}
		if s := sectorsOf(d); s[0] != padded(sealed(want), api.Sector) || s[1]+s[2] != bytes || s[3+2*page]+s[4+2*page] != bytes {
			t.Error(page, "isn't written")
		}
	}
}

// round of a Write, as the document says it.
func round(at, from int, images ...Image) []command {
	var l []command
	for slot, i := range images {
		l = append(l, writes(at+3*slot, headOf(i.Page)+i.Bytes)...)
	}
	l = append(l, syncs()...)
	for _, i := range images {
		l = append(l, writes(from+2*i.Page, i.Bytes)...)
	}
	return append(l, syncs()...)
}

func TestP9_2InOrder(t *testing.T) {
	a, b, c, d, e := Image{4, bytesOf(9, "a")}, Image{0, bytesOf(2, "b")}, Image{7, noughts}, Image{2, bytesOf(5, "d")}, Image{1, bytesOf(0, "e")}
	again := Image{4, bytesOf(3, "again")}
	for name, x := range map[string]struct {
		slots  int
		rounds [][]Image
	}{
		"none":           {3, nil},
		"one":            {3, [][]Image{{a}}},
		"fewer":          {3, [][]Image{{a, b}}},
		"as many":        {3, [][]Image{{a, b, c}}},
		"one more":       {3, [][]Image{{a, b, c}, {d}}},
		"twice as many":  {2, [][]Image{{a, b}, {c, d}}},
		"and one more":   {2, [][]Image{{a, b}, {c, d}, {e}}},
		"one slot":       {1, [][]Image{{a}, {b}, {c}}},
		"sixteen slots":  {16, [][]Image{{a, b, c, d, e}}},
		"noughts":        {1, [][]Image{{c}}},
		"twice at once":  {3, [][]Image{{a, b, again}}},
		"twice, later":   {2, [][]Image{{a, b}, {again}}},
		"the same twice": {2, [][]Image{{a, a}, {a}}},
	} {
		var want [][]command
		for _, images := range x.rounds {
			want = append(want, round(1, 52, images...))
		}
		list := slices.Concat(x.rounds...)
		given := slices.Clone(list)
		does(t, name, full(t, 70), func(d *device.Device) api.Errno {
			return areaOf(t, d, 1, x.slots, 52, 8).Write(list)
		}, want...)
		if !slices.Equal(list, given) {
			t.Error(name, "changed")
		}
	}
}

func TestP9_2ManyImages(t *testing.T) {
	for _, count := range []int{15, 16, 17, 32, 33} {
		d := made(t, 48+100, nil)
		a := areaOf(t, d, 0, 16, 48, 50)
		var list []Image
		for n := range count {
			list = append(list, Image{49 - n, bytesOf(n, fmt.Sprint(n))})
		}
		if e := a.Write(list); e != api.OK {
			t.Error(count, e)
		}
		for _, i := range list {
			reads(t, a, i.Page, i.Bytes)
		}
		rounds := (count + 15) / 16
		if waiting, done := d.Open(); waiting != 0 || done != 1+5*count+2*rounds {
			t.Error(count, waiting, done)
		}
	}
}

func TestP9_2WrongImages(t *testing.T) {
	good := bytesOf(3, "good")
	spoilt := []byte(good)
	spoilt[100]++
	for name, wrong := range map[string]Image{
		"-1": {-1, good}, "Pages": {8, good}, "one more": {9, good}, "65536": {65536, good}, "least": {math.MinInt, good}, "greatest": {math.MaxInt, good},
		"no bytes": {1, ""}, "too few": {1, good[:511]}, "too many": {1, good + "\x00"}, "spoilt": {1, string(spoilt)},
		"torn": {1, torn(good, bytesOf(4, "good"))}, "half noughts": {1, torn(good, noughts)}, "the other half": {1, torn(noughts, good)},
		"few noughts": {1, noughts[1:]}, "two LSNs": {1, sealed(number(1, 6) + padded("", 496) + number(2, 6))},
	} {
		d := full(t, 40)
		a := areaOf(t, d, 0, 2, 10, 8)
		before := sectorsOf(d)
		_, commands := d.Open()
		for _, list := range [][]Image{{wrong}, {{1, good}, wrong}, {wrong, {1, good}}, {{1, good}, {2, good}, {3, good}, wrong}} {
			if e := a.Write(list); e != api.ErrArg {
				t.Error(name, e)
			}
			d.Blow()
			if e := a.Write(list); e != api.ErrArg {
				t.Error(name, "power off", e)
			}
			d.On()
		}
		if waiting, done := d.Open(); waiting != 0 || done != commands || !slices.Equal(sectorsOf(d), before) {
			t.Error(name, "something was written")
		}
	}
}

func TestP9_2NilAndNoPower(t *testing.T) {
	for _, list := range [][]Image{nil, {}, {{0, noughts}}} {
		if e := (*Area)(nil).Write(list); e != api.ErrArg {
			t.Error(len(list), e)
		}
	}
	d := full(t, 40)
	a := areaOf(t, d, 0, 2, 10, 8)
	before := sectorsOf(d)
	d.Blow()
	if e := a.Write([]Image{{1, bytesOf(1, "a")}}); e != api.ErrPower {
		t.Error(e)
	}
	for _, none := range [][]Image{nil, {}} {
		if e := a.Write(none); e != api.OK {
			t.Error(e)
		}
	}
	d.On()
	if !slices.Equal(sectorsOf(d), before) {
		t.Error("something was written")
	}
	// The power is on again: the area goes on.
	if e := a.Write([]Image{{1, bytesOf(1, "a")}}); e != api.OK {
		t.Error(e)
	}
	reads(t, a, 1, bytesOf(1, "a"))
}

// broken is how the pages are that Repair finds: no slot tells these bytes.
var broken = torn(bytesOf(1, "one"), bytesOf(2, "two"))

// slotsAre lays slots, from sector 0 on, beside pages from sector 12 on.
func slotsAre(slots ...string) map[int]string {
	return laid(0, strings.Join(slots, ""))
}

func pagesAre(pages ...string) map[int]string {
	return laid(12, strings.Join(pages, ""))
}

func slot(page int, bytes string) string {
	return headOf(page) + bytes
}

func TestP9_3WhichSlotCounts(t *testing.T) {
	good, other := bytesOf(7, "good"), bytesOf(6, "other")
	spoilt := []byte(good)
	spoilt[511]++
	for name, x := range map[string]struct {
		slots []string
		want  string // of page 1, which is broken; empty, where it stays so
	}{
		"one":                {[]string{slot(1, good)}, good},
		"the last":           {[]string{"", "", "", slot(1, good)}, good},
		"of LSN 0":           {[]string{"", slot(1, bytesOf(0, "zero"))}, bytesOf(0, "zero")},
		"of the greatest":    {[]string{slot(1, bytesOf(1<<48-1, "most"))}, bytesOf(1<<48-1, "most")},
		"no page's form":     {[]string{slot(1, sealed(number(3, 6)+strings.Repeat("x", 496)+number(3, 6)))}, sealed(number(3, 6) + strings.Repeat("x", 496) + number(3, 6))},
		"none":               {nil, ""},
		"other pages'":       {[]string{slot(0, good), slot(2, good), slot(3, good)}, ""},
		"noughts":            {[]string{slot(1, noughts)}, ""},
		"noughts and one":    {[]string{slot(1, noughts), slot(1, bytesOf(0, "zero"))}, bytesOf(0, "zero")},
		"torn":               {[]string{slot(1, torn(good, other))}, ""},
		"torn, and one":      {[]string{slot(1, torn(good, other)), slot(1, other)}, other},
		"half noughts":       {[]string{slot(1, torn(noughts, good)), slot(1, torn(good, noughts))}, ""},
		"spoilt":             {[]string{slot(1, string(spoilt))}, ""},
		"first is greatest":  {[]string{slot(1, bytesOf(9, "a")), slot(1, bytesOf(8, "b")), slot(1, bytesOf(7, "c"))}, bytesOf(9, "a")},
		"middle is greatest": {[]string{slot(1, bytesOf(7, "a")), slot(1, bytesOf(9, "b")), slot(1, bytesOf(8, "c"))}, bytesOf(9, "b")},
		"last is greatest":   {[]string{slot(1, bytesOf(8, "a")), slot(1, bytesOf(7, "b")), slot(1, bytesOf(9, "c"))}, bytesOf(9, "c")},
		"by all six bytes":   {[]string{slot(1, bytesOf(255, "a")), slot(1, bytesOf(1<<40, "b")), slot(1, bytesOf(256, "c"))}, bytesOf(1<<40, "b")},
		"among equals":       {[]string{slot(1, bytesOf(7, "a")), slot(1, bytesOf(8, "b")), slot(1, bytesOf(8, "c"))}, bytesOf(8, "b")},
		"spoilt is greatest": {[]string{slot(1, bytesOf(8, "a")), slot(1, torn(bytesOf(9, "b"), good))}, bytesOf(8, "a")},
		"another is greater": {[]string{slot(2, bytesOf(9, "a")), slot(1, bytesOf(8, "b")), slot(0, bytesOf(10, "c"))}, bytesOf(8, "b")},
	} {
		for i, s := range x.slots {
			x.slots[i] = padded(s, 3*api.Sector)
		}
		d := made(t, 20, together(slotsAre(x.slots...), pagesAre(noughts, broken, other, noughts)))
		a := areaOf(t, d, 0, 4, 12, 4)
		n, e := a.Repair()
		want, count := x.want, 1
		if want == "" {
			want, count = broken, 0
		}
		if n != count || e != api.OK {
			t.Error(name, n, e)
		}
		t.Run(name, func(t *testing.T) {
			reads(t, a, 0, noughts)
			reads(t, a, 1, want)
			reads(t, a, 2, other)
			reads(t, a, 3, noughts)
		})
	}
}

func TestP9_3HeadsThatAreNone(t *testing.T) {
	good := bytesOf(7, "good")
	changed := func(at int) string {
		b := []byte(headOf(1))
		b[at]++
		return string(b)
	}
	heads := map[string]string{
		"noughts": padded("", 256), "another mark": padded(sealed("CS\x00\x01"), 256), "Pages": headOf(4), "one more": headOf(5),
		"of the high byte": headOf(256 + 1), "the greatest": headOf(65535), "one byte": padded(sealed("CT\x01"), 256),
		"three bytes": padded(sealed("CT\x00\x00\x01"), 256), "no sum": padded("CT\x00\x01", 256), "a page": good[:256],
		"turned round": padded(sealed("CT\x01\x00"), 256),
	}
	for at := range api.Sector {
		heads[fmt.Sprint("another byte ", at)] = changed(at)
	}
	for name, head := range heads {
		d := made(t, 20, together(slotsAre(head+good), pagesAre(noughts, broken, broken, broken)))
		before := sectorsOf(d)
		if n, e := areaOf(t, d, 0, 4, 12, 4).Repair(); n != 0 || e != api.OK || !slices.Equal(sectorsOf(d), before) {
			t.Error(name, n, e)
		}
	}
}

func TestP9_3ASlotOfThePageThatIsLast(t *testing.T) {
	d := made(t, 3+1600, together(laid(0, slot(799, bytesOf(1, "a"))), laid(3+2*799, broken)))
	a := areaOf(t, d, 0, 1, 3, 800)
	if n, e := a.Repair(); n != 1 || e != api.OK {
		t.Error(n, e)
	}
	reads(t, a, 799, bytesOf(1, "a"))
}

func TestP9_3WholePagesStay(t *testing.T) {
	old := bytesOf(2, "old")
	d := made(t, 20, together(
		slotsAre(slot(0, bytesOf(9, "a")), slot(1, bytesOf(9, "b")), slot(2, bytesOf(9, "c")), slot(3, bytesOf(1, "d"))),
		pagesAre(old, noughts, bytesOf(9, "other"), old)))
	does(t, "Whole", d, func(d *device.Device) api.Errno {
		n, e := areaOf(t, d, 0, 4, 12, 4).Repair()
		if n != 0 {
			t.Error(n)
		}
		return e
	})
}

func TestP9_3InOrder(t *testing.T) {
	half := torn(noughts, bytesOf(3, "half"))
	a, b, c, d := bytesOf(9, "a"), bytesOf(8, "b"), bytesOf(3, "c"), bytesOf(0, "d")
	for name, x := range map[string]struct {
		slots, pages []string
		want         map[int]string
	}{
		"one":            {[]string{slot(2, a)}, []string{noughts, noughts, broken}, map[int]string{2: a}},
		"all":            {[]string{slot(3, a), slot(1, b), slot(2, c), slot(0, d)}, []string{broken, half, broken, half}, map[int]string{0: d, 1: b, 2: c, 3: a}},
		"some":           {[]string{slot(3, a), slot(1, b), slot(2, c), slot(0, d)}, []string{a, half, noughts, half}, map[int]string{1: b, 3: a}},
		"some without":   {[]string{slot(3, a), slot(3, b), slot(3, c), slot(1, d)}, []string{broken, half, broken, broken}, map[int]string{1: d, 3: a}},
		"none has one":   {[]string{slot(3, a)}, []string{broken, broken, broken, a}, nil},
		"the same bytes": {[]string{slot(3, a), slot(0, a)}, []string{broken, a, a, broken}, map[int]string{0: a, 3: a}},
	} {
		var want []command
		for _, n := range slices.Sorted(maps.Keys(x.want)) {
			want = append(want, writes(12+2*n, x.want[n])...)
		}
		if len(want) > 0 {
			want = append(want, syncs()...)
		}
		before := made(t, 21, together(slotsAre(x.slots...), pagesAre(x.pages...), map[int]string{20: "beside it"}))
		does(t, name, before, func(d *device.Device) api.Errno {
			n, e := areaOf(t, d, 0, 4, 12, 4).Repair()
			if e == api.OK && n != len(x.want) || e != api.OK && n != 0 {
				t.Error(name, n, e)
			}
			return e
		}, want)
	}
}

func TestP9_3NilAndNoPower(t *testing.T) {
	if n, e := (*Area)(nil).Repair(); n != 0 || e != api.ErrArg {
		t.Error(n, e)
	}
	for _, sectors := range []map[int]string{nil, together(slotsAre(slot(1, bytesOf(1, "a"))), pagesAre(noughts, broken))} {
		d := made(t, 20, sectors)
		a := areaOf(t, d, 0, 4, 12, 4)
		d.Blow()
		if n, e := a.Repair(); n != 0 || e != api.ErrPower {
			t.Error(n, e)
		}
		d.On()
		if n, e := a.Repair(); n != min(1, len(sectors)) || e != api.OK {
			t.Error(n, e)
		}
	}
}
