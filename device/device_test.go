package device

import (
	"math"
	"math/rand/v2"
	"slices"
	"strconv"
	"strings"
	"testing"

	"concordance/api"
)

func made(t *testing.T, sectors int) *Device {
	t.Helper()
	d, e := New(sectors)
	if e != api.OK || d == nil {
		t.Fatal("New", sectors, e)
	}
	return d
}

// does tells where one of some writes and syncs isn't done: "0a" writes "a" to
// the sector 0, "sync" syncs.
func does(t *testing.T, d *Device, commands ...string) {
	t.Helper()
	for _, c := range commands {
		e := api.OK
		if c == "sync" {
			e = d.Sync()
		} else {
			e = d.Write(int(c[0]-'0'), c[1:])
		}
		if e != api.OK {
			t.Fatal(c, e)
		}
	}
}

// has tells where the sectors aren't these, from the first one on, with noughts
// behind each.
func has(t *testing.T, d *Device, sectors ...string) {
	t.Helper()
	for i, want := range sectors {
		s, e := d.Read(i)
		if e != api.OK || s != want+strings.Repeat("\x00", api.Sector-len(want)) {
			t.Errorf("Read(%d): %q %d, not %q", i, strings.TrimRight(s, "\x00"), e, want)
		}
	}
}

func open(t *testing.T, d *Device, waiting, done int) {
	t.Helper()
	if w, n := d.Open(); w != waiting || n != done {
		t.Errorf("Open: %d %d, not %d %d", w, n, waiting, done)
	}
}

func TestP3_1New(t *testing.T) {
	for _, n := range []int{0, -1, api.MaxSectors + 1, math.MinInt, math.MaxInt} {
		if d, e := New(n); d != nil || e != api.ErrArg {
			t.Errorf("New(%d): %v %d", n, d, e)
		}
	}
	for _, n := range []int{1, 2, api.MaxSectors - 1, api.MaxSectors} {
		d := made(t, n)
		if d.Size() != n || d.Off() {
			t.Error(n, d.Size(), d.Off())
		}
		open(t, d, 0, 0)
		for i := range n {
			if s, e := d.Read(i); s != strings.Repeat("\x00", api.Sector) || e != api.OK {
				t.Fatalf("Read(%d) of %d: %q %d", i, n, s, e)
			}
		}
	}
}

func TestP3_1ReadAndWrite(t *testing.T) {
	for _, n := range []int{1, 5, api.MaxSectors} {
		d := made(t, n)
		for _, i := range []int{-1, n, n + 1, math.MinInt, math.MaxInt} {
			if s, e := d.Read(i); s != "" || e != api.ErrArg {
				t.Errorf("Read(%d) of %d: %q %d", i, n, s, e)
			}
			if e := d.Write(i, "a"); e != api.ErrArg {
				t.Errorf("Write(%d) of %d: %d", i, n, e)
			}
		}
		open(t, d, 0, 0)
		for i, data := range map[int]string{0: "first", n - 1: "last"} {
			if e := d.Write(i, data); e != api.OK {
				t.Errorf("Write(%d) of %d: %d", i, n, e)
			}
			if s, e := d.Read(i); len(s) != api.Sector || strings.TrimRight(s, "\x00") != data || e != api.OK {
				t.Errorf("Read(%d) of %d: %q %d", i, n, s, e)
			}
		}
	}
}

func TestP3_1WriteOfEveryLength(t *testing.T) {
	for _, synced := range []bool{false, true} {
		d := made(t, 2)
		for n := range api.Sector + 1 {
			// What stood there before must not show behind the data.
			does(t, d, "0"+strings.Repeat("\xff", api.Sector), "0"+strings.Repeat("a", n))
			if synced {
				does(t, d, "sync")
			}
			has(t, d, strings.Repeat("a", n), "")
		}
		waiting, done := d.Open()
		for _, n := range []int{api.Sector + 1, 2 * api.Sector, 10000} {
			if e := d.Write(0, strings.Repeat("b", n)); e != api.ErrLong {
				t.Error(n, e)
			}
		}
		has(t, d, strings.Repeat("a", api.Sector), "")
		open(t, d, waiting, done)
	}
}

func TestP3_1AWriteIsSeenAtOnce(t *testing.T) {
	d := made(t, 3)
	does(t, d, "0a", "1b", "0c")
	has(t, d, "c", "b", "")
	open(t, d, 3, 3)
	does(t, d, "sync")
	has(t, d, "c", "b", "")
	open(t, d, 0, 4)
	does(t, d, "1d", "sync", "sync", "0")
	has(t, d, "", "d", "")
	open(t, d, 1, 8)
}

func TestP3_1ReadIsNoCommand(t *testing.T) {
	d := made(t, 2)
	d.Fuse(1)
	for range 5 {
		has(t, d, "", "")
	}
	open(t, d, 0, 0)
	if d.Off() {
		t.Error("off")
	}
}

func TestP3_1OrderOfErrors(t *testing.T) {
	long := strings.Repeat("x", api.Sector+1)
	d := made(t, 2)
	if e := d.Write(2, long); e != api.ErrArg {
		t.Error(e)
	}
	if e := d.Write(-1, long); e != api.ErrArg {
		t.Error(e)
	}
	d.Blow()
	for _, i := range []int{-1, 0, 1, 2} {
		for _, data := range []string{"", "a", long} {
			if e := d.Write(i, data); e != api.ErrPower {
				t.Errorf("Write(%d): %d", i, e)
			}
		}
		if s, e := d.Read(i); s != "" || e != api.ErrPower {
			t.Errorf("Read(%d): %q %d", i, s, e)
		}
	}
	if e := d.Sync(); e != api.ErrPower {
		t.Error(e)
	}
	if d.Size() != 2 {
		t.Error(d.Size())
	}
	open(t, d, 0, 0)
}

func TestP3_1OnlyWhatWouldBeDoneIsACommand(t *testing.T) {
	d := made(t, 2)
	d.Fuse(2)
	for range 3 {
		d.Write(-1, "")
		d.Write(2, "")
		d.Write(0, strings.Repeat("x", api.Sector+1))
		d.Read(9)
	}
	does(t, d, "0a")
	for range 3 {
		if e := d.Write(2, ""); e != api.ErrArg {
			t.Error(e)
		}
		if e := d.Write(0, strings.Repeat("x", api.Sector+1)); e != api.ErrLong {
			t.Error(e)
		}
	}
	if d.Off() {
		t.Error("off")
	}
	if e := d.Sync(); e != api.ErrPower || !d.Off() {
		t.Error(e, d.Off())
	}
	open(t, d, 0, 1)
}

func TestP3_2BlowKeeps(t *testing.T) {
	for _, c := range []struct {
		keep []int
		want [4]string
	}{
		{nil, [4]string{"S", "T"}},
		{[]int{}, [4]string{"S", "T"}},
		{[]int{0}, [4]string{"S", "T"}},
		{[]int{1}, [4]string{"c", "e", "d", ""}},
		{[]int{-1}, [4]string{"c", "e", "d", ""}},
		{[]int{0, 1}, [4]string{"S", "b", "d", ""}},
		{[]int{1, 0}, [4]string{"c", "e", "", ""}},
		{[]int{1, 0, 0}, [4]string{"a", "T", "d", ""}},
		{[]int{0, 7, 0, 0}, [4]string{"S", "b", "", ""}},
		{[]int{0, 0, 0, 0, math.MinInt}, [4]string{"S", "e", "", ""}},
		{[]int{1, 0, 0, 0, 0}, [4]string{"a", "T", "", ""}},
		{[]int{1, 1, 0, 0, 0, 1, 1, 1}, [4]string{"a", "b", "", ""}},
		{[]int{0, 0, 0, 0, 0, 1}, [4]string{"S", "T", "", ""}},
	} {
		d := made(t, 4)
		does(t, d, "0s", "1t", "0S", "1T", "sync", "0a", "1b", "0c", "2d", "1e")
		keep := slices.Clone(c.keep)
		d.Blow(keep...)
		if !slices.Equal(keep, c.keep) {
			t.Error(c.keep, "changed to", keep)
		}
		if !d.Off() {
			t.Error(c.keep, "on")
		}
		open(t, d, 0, 10)
		d.On()
		if d.Off() {
			t.Error(c.keep, "off")
		}
		has(t, d, c.want[:]...)
		open(t, d, 0, 10)
	}
}

func TestP3_2TheExample(t *testing.T) {
	d := made(t, 2)
	does(t, d, "0a", "1b")
	d.Blow(0, 1)
	d.On()
	has(t, d, "", "b")
}

func TestP3_2WhatIsKeptLasts(t *testing.T) {
	d := made(t, 2)
	does(t, d, "0a", "1b")
	d.Blow(1, 0)
	d.On()
	does(t, d, "1c")
	d.Blow()
	d.On()
	has(t, d, "a", "")
	// Counted from 0 on again: the writes ahead of a power failure don't count.
	does(t, d, "0x", "1y")
	d.Blow(0, 1)
	d.On()
	has(t, d, "a", "y")
	does(t, d, "0p", "sync", "0q", "1r")
	d.Blow(1, 0)
	d.On()
	has(t, d, "q", "y")
}

func TestP3_2BlowWhereThePowerIsOff(t *testing.T) {
	d := made(t, 2)
	does(t, d, "0a")
	d.Blow(1)
	d.Blow()
	d.Blow(0)
	d.On()
	has(t, d, "a")
}

func TestP3_2Fuse(t *testing.T) {
	for n, place := range map[int]int{math.MinInt: 1, -1: 1, 0: 1, 1: 1, 2: 2, 3: 3, 5: 5} {
		d := made(t, 2)
		does(t, d, "0s", "sync")
		d.Fuse(n, 0, 1)
		all := []string{"0a", "1b", "0c", "1d", "0e"}
		does(t, d, all[:place-1]...)
		if d.Off() {
			t.Error(n, "off")
		}
		open(t, d, place-1, place+1)
		last := all[place-1]
		if e := d.Write(int(last[0]-'0'), last[1:]); e != api.ErrPower {
			t.Error(n, e)
		}
		if !d.Off() {
			t.Error(n, "on")
		}
		if e := d.Write(0, "z"); e != api.ErrPower {
			t.Error(n, e)
		}
		open(t, d, 0, place+1)
		d.On()
		// The write in whose place the power failed is neither kept nor counted.
		want := map[int]string{1: "", 2: "", 3: "b", 5: "d"}
		has(t, d, "s", want[place])
		does(t, d, "0y", "1z", "sync", "0y", "1z")
		open(t, d, 2, place+6)
	}
}

func TestP3_2FuseInPlaceOfSync(t *testing.T) {
	d := made(t, 2)
	d.Fuse(3, 1, 0)
	does(t, d, "0a", "1b")
	if e := d.Sync(); e != api.ErrPower || !d.Off() {
		t.Error(e, d.Off())
	}
	d.On()
	has(t, d, "a", "")
	open(t, d, 0, 2)
}

func TestP3_2SyncIsACommand(t *testing.T) {
	d := made(t, 1)
	d.Fuse(4)
	does(t, d, "sync", "0a", "sync")
	if e := d.Write(0, "b"); e != api.ErrPower {
		t.Error(e)
	}
	d.On()
	has(t, d, "a")
}

func TestP3_2AnotherFuseTakesItsPlace(t *testing.T) {
	d := made(t, 2)
	d.Fuse(1, 1)
	d.Fuse(3, 0, 1)
	does(t, d, "0a", "1b")
	if e := d.Sync(); e != api.ErrPower {
		t.Error(e)
	}
	d.On()
	has(t, d, "", "b")
	d.Fuse(math.MaxInt, 1)
	does(t, d, "0c")
	d.Fuse(1)
	if e := d.Write(0, "d"); e != api.ErrPower {
		t.Error(e)
	}
	d.On()
	has(t, d, "", "b")
}

func TestP3_2OnlyTheFirstFuseLetsThePowerFail(t *testing.T) {
	d := made(t, 1)
	d.Fuse(1)
	d.Write(0, "a")
	d.On()
	does(t, d, "0a", "0b", "sync", "sync")
	if d.Off() {
		t.Error("off")
	}
}

func TestP3_2TheListOfFuseIsNotKept(t *testing.T) {
	d := made(t, 2)
	keep := []int{0, 1}
	d.Fuse(3, keep...)
	does(t, d, "0a", "1b")
	keep[0], keep[1] = 1, 0
	d.Sync()
	d.On()
	has(t, d, "", "b")
	if keep[0] != 1 || keep[1] != 0 {
		t.Error(keep)
	}
}

func TestP3_2OnLeavesNoFuse(t *testing.T) {
	for _, off := range []bool{false, true} {
		d := made(t, 1)
		does(t, d, "0a")
		d.Fuse(1, 1)
		if off {
			d.Blow(1)
			d.Fuse(2, 1)
		}
		d.On()
		does(t, d, "0b", "0c", "sync", "0d")
		has(t, d, "d")
	}
}

func TestP3_2OnWhereThePowerIsOn(t *testing.T) {
	d := made(t, 2)
	does(t, d, "0a", "1b")
	d.On()
	open(t, d, 2, 2)
	has(t, d, "a", "b")
	d.Blow(0, 1)
	d.On()
	has(t, d, "", "b")
}

func TestP3_2BlowWhileAFuseWaits(t *testing.T) {
	d := made(t, 2)
	d.Fuse(5, 1)
	does(t, d, "0a", "1b")
	d.Blow(0, 1)
	d.On()
	has(t, d, "", "b")
	does(t, d, "0a", "1b", "sync", "sync", "sync")
}

func TestP3_2CopyGoesItsOwnWay(t *testing.T) {
	d := made(t, 3)
	does(t, d, "0s", "sync", "0a", "1b")
	c := d.Copy()
	if c == d || c.Size() != 3 || c.Off() {
		t.Fatal("Copy")
	}
	has(t, c, "a", "b", "")
	open(t, c, 2, 4)
	does(t, d, "0d", "2e")
	does(t, c, "0x", "1y", "2z")
	has(t, d, "d", "b", "e")
	has(t, c, "x", "y", "z")
	open(t, d, 4, 6)
	open(t, c, 5, 7)
	does(t, c, "sync")
	d.Blow(1, 0)
	if c.Off() {
		t.Error("off")
	}
	d.On()
	has(t, d, "d", "", "")
	has(t, c, "x", "y", "z")
}

func TestP3_2WritesOfCopiesDoNotMeet(t *testing.T) {
	// Whatever room there is behind the writes that wait, it isn't shared.
	for n := range 20 {
		d := made(t, 1)
		for range n {
			does(t, d, "0a")
		}
		c := d.Copy()
		does(t, d, "0d")
		does(t, c, "0c")
		has(t, d, "d")
		has(t, c, "c")
	}
}

func TestP3_2CopyHasTheFuse(t *testing.T) {
	d := made(t, 2)
	d.Fuse(3, 0, 1)
	does(t, d, "0a")
	c := d.Copy()
	d.On()
	does(t, d, "1b", "sync", "sync")
	does(t, c, "1b")
	if e := c.Sync(); e != api.ErrPower || !c.Off() || d.Off() {
		t.Error(e, c.Off(), d.Off())
	}
	has(t, d, "a", "b")
	c.On()
	has(t, c, "", "b")
	d.Fuse(1)
	does(t, c, "sync")
}

func TestP3_2CopyWhereThePowerIsOff(t *testing.T) {
	d := made(t, 2)
	does(t, d, "0a", "1b")
	d.Blow(1, 0)
	c := d.Copy()
	if !c.Off() || c.Size() != 2 {
		t.Error(c.Off(), c.Size())
	}
	open(t, c, 0, 2)
	c.On()
	has(t, c, "a", "")
	does(t, c, "0c", "sync")
	if !d.Off() {
		t.Error("on")
	}
	d.On()
	has(t, d, "a", "")
}

func TestP3_2OfANilDevice(t *testing.T) {
	var d *Device
	if s, e := d.Read(0); s != "" || e != api.ErrArg {
		t.Errorf("%q %d", s, e)
	}
	if e := d.Write(0, "a"); e != api.ErrArg {
		t.Error(e)
	}
	if e := d.Write(-1, strings.Repeat("a", api.Sector+1)); e != api.ErrArg {
		t.Error(e)
	}
	if e := d.Sync(); e != api.ErrArg {
		t.Error(e)
	}
	d.Fuse(1, 1)
	d.Blow(1)
	d.On()
	open(t, d, 0, 0)
	if d.Size() != 0 || !d.Off() || d.Copy() != nil {
		t.Error(d.Size(), d.Off(), d.Copy())
	}
}

// story is a device told by all its writes, each of which lasts, waits or is lost.
type story struct {
	size   int
	writes []told
	done   int
	off    bool
	left   int
	keep   []int
}

type told struct {
	sector int
	data   string
	state  int
}

const (
	waits = iota
	lasts
	lost
)

func (s *story) end(kept func(i int) bool) {
	i := 0
	for k, w := range s.writes {
		if w.state != waits {
			continue
		}
		s.writes[k].state = lost
		if kept(i) {
			s.writes[k].state = lasts
		}
		i++
	}
}

func (s *story) blow(keep []int) {
	if !s.off {
		s.end(func(i int) bool { return len(keep) > 0 && keep[i%len(keep)] != 0 })
		s.off = true
	}
}

// command is whether one that would be done is.
func (s *story) command() bool {
	s.left--
	if s.left == 0 {
		s.blow(s.keep)
		return false
	}
	s.done++
	return true
}

func (s *story) write(i int, data string) api.Errno {
	switch {
	case s.off:
		return api.ErrPower
	case i < 0 || i >= s.size:
		return api.ErrArg
	case len(data) > api.Sector:
		return api.ErrLong
	case !s.command():
		return api.ErrPower
	}
	s.writes = append(s.writes, told{i, data, waits})
	return api.OK
}

func (s *story) sync() api.Errno {
	if s.off || !s.command() {
		return api.ErrPower
	}
	s.end(func(int) bool { return true })
	return api.OK
}

func (s *story) read(i int) (string, api.Errno) {
	if s.off {
		return "", api.ErrPower
	}
	if i < 0 || i >= s.size {
		return "", api.ErrArg
	}
	b := make([]byte, api.Sector)
	for _, w := range s.writes {
		if w.sector == i && w.state != lost {
			clear(b)
			copy(b, w.data)
		}
	}
	return string(b), api.OK
}

func (s *story) open() (int, int) {
	n := 0
	for _, w := range s.writes {
		if w.state == waits {
			n++
		}
	}
	return n, s.done
}

func (s *story) copy() *story {
	c := *s
	c.writes = slices.Clone(s.writes)
	return &c
}

func agree(t *testing.T, d *Device, s *story) {
	t.Helper()
	w, n := d.Open()
	w2, n2 := s.open()
	if w != w2 || n != n2 || d.Off() != s.off || d.Size() != s.size {
		t.Fatal("Open", w, n, w2, n2, "Off", d.Off(), s.off)
	}
	for i := -1; i <= s.size; i++ {
		got, e := d.Read(i)
		want, e2 := s.read(i)
		if got != want || e != e2 {
			t.Fatalf("Read(%d): %q %d, not %q %d", i, got, e, want, e2)
		}
	}
}

// step does something by chance to both.
func step(t *testing.T, r *rand.Rand, d *Device, s *story, n int) {
	t.Helper()
	keep := make([]int, r.IntN(5))
	for i := range keep {
		keep[i] = r.IntN(4) - 2
	}
	switch r.IntN(12) {
	case 0, 1:
		if e, e2 := d.Sync(), s.sync(); e != e2 {
			t.Fatal("Sync", e, e2)
		}
	case 2:
		at := r.IntN(12) - 2
		d.Fuse(at, keep...)
		s.left, s.keep = max(1, at), keep
	case 3:
		d.Blow(keep...)
		s.blow(keep)
	case 4, 5:
		d.On()
		s.off, s.left = false, 0
	default:
		i, data := r.IntN(s.size+2)-1, strconv.Itoa(n)
		if r.IntN(10) == 0 {
			data = strings.Repeat("x", api.Sector+r.IntN(3)-1)
		}
		if e, e2 := d.Write(i, data), s.write(i, data); e != e2 {
			t.Fatalf("Write(%d): %d, not %d", i, e, e2)
		}
	}
}

func TestP3AsItsStoryTells(t *testing.T) {
	for seed := range uint64(60) {
		r := rand.New(rand.NewPCG(seed, 3))
		size := 1 + r.IntN(6)
		d, s := made(t, size), &story{size: size}
		for n := range 250 {
			step(t, r, d, s, n)
			agree(t, d, s)
			if r.IntN(20) == 0 {
				c, sc := d.Copy(), s.copy()
				for k := range 20 {
					step(t, r, c, sc, 1000+k)
				}
				agree(t, c, sc)
				agree(t, d, s)
				if r.IntN(2) == 0 {
					d, s = c, sc
				}
			}
		}
	}
}
