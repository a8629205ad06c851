package mini

import (
	"fmt"
	"math"
	"slices"
	"strings"
	"testing"

	"concordance/api"
	"concordance/device"
	"concordance/record"
	"concordance/wal"
)

// wrongPlans are right but for one part.
func wrongPlans() []Plan {
	var l []Plan
	for _, n := range []int{math.MinInt, -1, 0, 513, math.MaxInt} {
		l = append(l, Plan{n, 2, 6, 3})
	}
	for _, n := range []int{math.MinInt, -1, 0, 17, math.MaxInt} {
		l = append(l, Plan{8, n, 6, 3})
	}
	for _, n := range []int{math.MinInt, -1, 0, 801, math.MaxInt} {
		l = append(l, Plan{8, 2, n, 3})
	}
	for _, n := range []int{math.MinInt, -1, 0, 65, math.MaxInt} {
		l = append(l, Plan{8, 2, 6, n})
	}
	return append(l, Plan{}, Plan{0, 0, 0, 1})
}

// rightPlans are at the edges.
func rightPlans() map[Plan]int {
	return map[Plan]int{
		{1, 1, 1, 1}:       2 + 2 + 3 + 2,
		{1, 1, 1, 64}:      2 + 2 + 3 + 2,
		{512, 1, 1, 1}:     2 + 1024 + 3 + 2,
		{1, 16, 1, 1}:      2 + 2 + 48 + 2,
		{1, 1, 800, 1}:     2 + 2 + 3 + 1600,
		{512, 16, 800, 64}: 2 + 1024 + 48 + 1600,
		{6, 2, 8, 4}:       2 + 12 + 6 + 16,
		small:              2 + 16 + 6 + 12,
	}
}

func TestP11_1Sectors(t *testing.T) {
	for p, want := range rightPlans() {
		if n := p.Sectors(); n != want {
			t.Error(p, n, "not", want)
		}
	}
	for _, p := range wrongPlans() {
		if n := p.Sectors(); n != 0 {
			t.Error(p, n)
		}
	}
}

func TestP11_1FormatAndOpenOfWrongArguments(t *testing.T) {
	refused := func(d *device.Device, p Plan) {
		t.Helper()
		n := commands(d, func() {
			if e := Format(d, p); e != api.ErrArg {
				t.Error("Format", p, e)
			}
			if s, l, e := Open(d, p); s != nil || len(l) != 0 || e != api.ErrArg {
				t.Error("Open", p, e)
			}
		})
		if n != 0 {
			t.Error("written", p)
		}
	}
	d, _ := device.New(api.MaxSectors)
	for _, p := range wrongPlans() {
		refused(d, p)
		refused(nil, p)
	}
	d.Blow() // ahead of the power
	for _, p := range wrongPlans() {
		refused(d, p)
	}
	for p, n := range rightPlans() {
		d, _ := device.New(n - 1)
		refused(d, p)
		refused(nil, p)
	}
}

func TestP11_1FormatAndOpenAtTheEdges(t *testing.T) {
	for p, n := range rightPlans() {
		for more := range 2 {
			d, _ := device.New(n + more)
			spoil(d)
			if e := Format(d, p); e != api.OK {
				t.Error("Format", p, e)
			}
			s, l, e := Open(d, p)
			if e != api.OK || s.Pages() != p.Pages || s.LSN() != 1 || len(l) != 1 {
				t.Error("Open", p, e)
			}
			if e := s.Checkpoint(""); e != api.OK {
				t.Error("Checkpoint", p, e)
			}
			b := &base{t: t, p: p, d: d, s: s}
			b.changes(p.Pages-1, "last")
			b.answers(b.s.Flush(3), api.OK)
			b.again()
			b.has(p.Pages-1, 3, "last")
			if more == 1 && sector(t, d, n) != junk(n) {
				t.Error("written behind the plan's sectors", p)
			}
		}
	}
}

func TestP11_1Format(t *testing.T) {
	d, _ := device.New(small.Sectors() + 2)
	spoil(d)
	n := commands(d, func() {
		if e := Format(d, small); e != api.OK {
			t.Error(e)
		}
	})
	if want := 2*small.Pages + 1 + 4; n != want { // the log's: a sector, Sync, a master, Sync
		t.Error(n, "commands, not", want)
	}
	if waits, _ := d.Open(); waits != 0 {
		t.Error(waits, "wait")
	}
	for i := range d.Size() {
		ofPages := i >= pagesFrom(small) && i < small.Sectors()
		if ofPages && sector(t, d, i) != nothing {
			t.Error(i, "isn't noughts")
		}
		if !ofPages && i >= slotsFrom(small) && sector(t, d, i) != junk(i) {
			t.Error(i, "was written")
		}
	}
	_, texts, e := wal.Open(d, 0, small.Half)
	if e != api.OK || len(texts) != 1 {
		t.Fatal(texts, e)
	}
	want := "\x00\x00\x00\x00\x00\x01" + "\x00\x00\x00\x00\x00\x00" + "\x04" + "\x00\x00" + "\x00\x00" + "\x00"
	if texts[0] != want {
		t.Errorf("%q", texts[0])
	}
	s, l, e := Open(d, small)
	if e != api.OK || len(l) != 1 || !sameRecord(l[0], record.Record{LSN: 1, Kind: record.State}) || s.LSN() != 1 {
		t.Error(l, e)
	}
}

// TestP11_1FormatInOrder: what was done when the power fails tells in which order
// it is done.
func TestP11_1FormatInOrder(t *testing.T) {
	p := small
	all := 2*p.Pages + 5
	sync := 2*p.Pages + 1
	for n := 1; n <= all; n++ {
		for _, keep := range [][]int{nil, {1}, {0, 1}, {1, 0}} {
			name := fmt.Sprint("at ", n, keep)
			d := deviceOf(t, p)
			spoil(d)
			d.Fuse(n, keep...)
			if e := Format(d, p); e != api.ErrPower {
				t.Error(name, e)
			}
			d.On()
			for i := pagesFrom(p); i < p.Sectors(); i++ {
				write := i - pagesFrom(p) // the i-th write, by rising numbers
				kept := len(keep) > 0 && keep[write%max(len(keep), 1)] != 0
				written := n > sync || write < n-1 && kept
				if s := sector(t, d, i); written && s != nothing || !written && s != junk(i) {
					t.Error(name, "sector", i)
				}
			}
			for i := range slotsFrom(p) {
				if n <= sync && sector(t, d, i) != junk(i) {
					t.Error(name, "the log was begun ahead of the Sync")
				}
			}
			_, _, e := Open(d, p)
			if done := n == all && len(keep) > 0 && keep[0] == 1; done && e != api.OK || !done && e != api.ErrForm {
				t.Error(name, "Open", e)
			}
			if e := Format(d, p); e != api.OK {
				t.Error(name, "again", e)
			}
			if _, l, e := Open(d, p); e != api.OK || len(l) != 1 {
				t.Error(name, "Open", e)
			}
		}
	}
}

func TestP11_1FormatWithoutPower(t *testing.T) {
	d := deviceOf(t, small)
	spoil(d)
	d.Blow()
	if e := Format(d, small); e != api.ErrPower {
		t.Error(e)
	}
	d.On()
	for i := range d.Size() {
		if sector(t, d, i) != junk(i) {
			t.Error("written", i)
		}
	}
}

// TestP11_1FormatAgain: what stood there is gone.
func TestP11_1FormatAgain(t *testing.T) {
	b := begun(t, small)
	for n := range b.p.Pages {
		b.changes(n, "old")
	}
	b.answers(b.s.Checkpoint("old"), api.OK)
	b.changes(1, "older")
	b.s.Flush(b.s.LSN())
	b.answers(Format(b.d, b.p), api.OK)
	b.told(b.opens(), record.Record{LSN: 1, Kind: record.State})
	for n := range b.p.Pages {
		b.has(n, 0, "")
	}
	if strings.Contains(strings.Join(sectors(t, b.d)[pagesFrom(b.p):], ""), "old") {
		t.Error("it stands there yet")
	}
	b.answers(b.s.Checkpoint(""), api.OK)
	if n := b.changes(5, "new"); n != 3 {
		t.Error(n)
	}
}

func sectors(t *testing.T, d *device.Device) []string {
	t.Helper()
	l := make([]string, d.Size())
	for i := range l {
		l[i] = sector(t, d, i)
	}
	return slices.Clip(l)
}
