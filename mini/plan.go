package mini

import (
	"concordance/api"
	"concordance/device"
	"concordance/record"
	"concordance/wal"
)

const (
	mostHalf   = 512
	mostSlots  = 16
	mostFrames = 64

	logAt       = 0 // its first sector
	masters     = 2
	halves      = 2
	slotSectors = 3
	pageSectors = api.Page / api.Sector
)

// Plan of a database on a device: sectors of a half of the log, slots, pages, frames.
type Plan struct {
	Half, Slots, Pages, Frames int
}

// Sectors that a plan needs.
func (p Plan) Sectors() int {
	if !p.right() {
		return 0
	}
	return p.pagesAt() + pageSectors*p.Pages
}

func (p Plan) right() bool {
	return between(1, p.Half, mostHalf) && between(1, p.Slots, mostSlots) &&
		between(1, p.Pages, api.MaxPages) && between(1, p.Frames, mostFrames)
}

func between(least, n, most int) bool {
	return least <= n && n <= most
}

// slotsAt: the first sector of the slots, behind the log.
func (p Plan) slotsAt() int {
	return logAt + masters + halves*p.Half
}

// pagesAt: the first sector of the pages, behind the slots.
func (p Plan) pagesAt() int {
	return p.slotsAt() + slotSectors*p.Slots
}

// fits: is the plan right, and has the device room for it?
func (p Plan) fits(d *device.Device) bool {
	return d != nil && p.right() && d.Size() >= p.Sectors()
}

// Format a device. The log comes last: once it has a master all pages are empty.
func Format(d *device.Device, p Plan) api.Errno {
	if !p.fits(d) {
		return api.ErrArg
	}
	for i := p.pagesAt(); i < p.Sectors(); i++ {
		if e := d.Write(i, ""); e != api.OK {
			return e
		}
	}
	if e := d.Sync(); e != api.OK {
		return e
	}
	first, e := record.Put(record.Record{LSN: 1, Kind: record.State})
	if e != api.OK {
		return e
	}
	return wal.Format(d, logAt, p.Half, first)
}
