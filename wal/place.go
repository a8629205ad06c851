package wal

import (
	"concordance/api"
	"concordance/device"
	"concordance/parts"
	"concordance/sum"
)

// place of a log: its sectors on a device, the masters, then the two halves.
type place struct {
	device   *device.Device
	at, half int
}

func (p place) there() bool {
	return p.device != nil && p.at >= 0 && p.half >= 1 && p.half <= mostHalf &&
		p.at <= p.device.Size()-p.size() // no sum that could overflow
}

// size: how many sectors the log has.
func (p place) size() int {
	return masters + halves*p.half
}

// first sector of a half, counted from the log's own first one.
func (p place) first(side int) int {
	return masters + side*p.half
}

// capacity of a half, in bytes.
func (p place) capacity() int {
	return blockRoom * p.half
}

// holds: does a text go into a half?
func (p place) holds(text string) bool {
	return lengthBytes+len(text) <= p.capacity()
}

// read all sectors of the log.
func (p place) read() ([]string, api.Errno) {
	l := make([]string, p.size())
	for i := range l {
		s, e := p.device.Read(p.at + i)
		if e != api.OK {
			return nil, e
		}
		l[i] = s
	}
	return l, api.OK
}

// begin a half with some bytes; it counts from then on. The master comes last:
// till it lasts the other half counts, which is left as it is.
func (p place) begin(m master, bytes string) api.Errno {
	if m.epoch > lastEpoch {
		return api.ErrCorrupt // no log comes so far: some sector was made by hand
	}
	if e := p.store(m, 0, bytes); e != api.OK {
		return e
	}
	if e := p.device.Write(p.at+m.epoch%masters, m.sector()); e != api.OK {
		return e
	}
	return p.device.Sync()
}

// store bytes in a half, from its sector i on, so that they last.
func (p place) store(m master, i int, bytes string) api.Errno {
	for from := 0; from < len(bytes); from += blockRoom {
		b := block{m.epoch, i, bytes[from:min(from+blockRoom, len(bytes))]}
		if e := p.device.Write(p.at+p.first(m.side)+i, b.sector()); e != api.OK {
			return e
		}
		i++
	}
	return p.device.Sync()
}

// master tells which half counts, and in which epoch it was begun.
type master struct {
	epoch, side int
}

func (m master) sector() string {
	return sum.Seal(masterMark + sum.Put(m.epoch, epochBytes) + sum.Put(m.side, sideBytes))
}

// masterOf a sector, and whether it is one.
func masterOf(sector string) (master, bool) {
	s, e := sum.Open(sector[:masterBytes])
	r := parts.Of(s)
	mark := r.Text(len(masterMark))
	m := master{epoch: r.Number(epochBytes), side: r.Number(sideBytes)}
	return m, e == api.OK && mark == masterMark && m.side < halves
}

// counting is the master that counts, and whether there is one.
func counting(sectors []string) (master, bool) {
	var best master // no epoch is 0
	for _, s := range sectors {
		if m, ok := masterOf(s); ok && m.epoch > best.epoch {
			best = m
		}
	}
	return best, best.epoch > 0
}

// block is what a sector of a half tells: only the bytes that count.
type block struct {
	epoch, place int
	bytes        string
}

func (b block) sector() string {
	head := sum.Put(b.epoch, epochBytes) + sum.Put(b.place, placeBytes) + sum.Put(len(b.bytes), lengthBytes)
	return sum.Seal(head + b.bytes + string(make([]byte, blockRoom-len(b.bytes))))
}

// blockOf a sector, and whether it is one.
func blockOf(sector string) (block, bool) {
	s, e := sum.Open(sector)
	r := parts.Of(s)
	b := block{epoch: r.Number(epochBytes), place: r.Number(placeBytes)}
	b.bytes = r.Text(r.Number(lengthBytes))
	return b, e == api.OK && !r.Short() && noughts(r.Rest())
}

// greatest epoch that any sector tells; 0, where none does.
func greatest(sectors []string) int {
	most := 0
	for _, s := range sectors {
		if m, ok := masterOf(s); ok {
			most = max(most, m.epoch)
		}
		if b, ok := blockOf(s); ok {
			most = max(most, b.epoch)
		}
	}
	return most
}
