package mini

import (
	"concordance/api"
	"concordance/device"
	"concordance/page"
	"concordance/patch"
	"concordance/pool"
	"concordance/record"
	"concordance/twin"
	"concordance/wal"
)

// Store of pages that are changed some at a time, all together.
type Store struct {
	log   *wal.Log
	area  *twin.Area
	pool  *pool.Pool
	lsn   int  // the last record's
	begun bool // a Checkpoint was OK since it was opened: the log can be appended to
}

// Open a device: pages are as the log tells them; the records that it has.
func Open(d *device.Device, p Plan) (*Store, []record.Record, api.Errno) {
	if !p.fits(d) {
		return nil, nil, api.ErrArg
	}
	log, texts, e := wal.Open(d, logAt, p.Half)
	if e != api.OK {
		return nil, nil, e
	}
	s, e := p.store(d, log)
	if e != api.OK {
		return nil, nil, e
	}
	// Ahead of the pages' being read: a torn one can't be held.
	if _, e := s.area.Repair(); e != api.OK {
		return nil, nil, e
	}
	records, e := recordsOf(texts)
	if e != api.OK {
		return nil, nil, e
	}
	for _, r := range records {
		if e := s.redo(r); e != api.OK {
			return nil, nil, e
		}
	}
	return s, records, api.OK
}

// store on a device, whose log was opened already.
func (p Plan) store(d *device.Device, log *wal.Log) (*Store, api.Errno) {
	s := &Store{log: log}
	var e api.Errno
	if s.area, e = twin.New(d, p.slotsAt(), p.Slots, p.pagesAt(), p.Pages); e != api.OK {
		return nil, e
	}
	s.pool, e = pool.New(s.area, p.Frames, s.Flush)
	return s, e
}

// recordsOf the log's texts: they begin with a State, and their LSNs have no gap.
func recordsOf(texts []string) ([]record.Record, api.Errno) {
	var l []record.Record
	for i, text := range texts {
		r, e := record.Get(text)
		first := i == 0
		if e != api.OK || first && r.Kind != record.State || !first && r.LSN != l[i-1].LSN+1 {
			return nil, api.ErrCorrupt
		}
		l = append(l, r)
	}
	return l, api.OK
}

// redo a record's changes, as far as the pages haven't got them.
func (s *Store) redo(r record.Record) api.Errno {
	for _, c := range r.Pages {
		if e := s.redoPage(r.LSN, c); e != api.OK {
			return e
		}
	}
	s.lsn = r.LSN
	return api.OK
}

func (s *Store) redoPage(lsn int, c record.Changed) api.Errno {
	if c.Page >= s.area.Pages() {
		return api.ErrCorrupt
	}
	old, e := s.pool.Pin(c.Page)
	if e != api.OK {
		return e
	}
	defer s.pool.Unpin(c.Page)
	if page.LSN(old) >= lsn {
		return api.OK
	}
	body, e := patch.Apply(page.Body(old), c.Pieces)
	if e != api.OK {
		return api.ErrCorrupt
	}
	return s.pool.Put(c.Page, page.Build(lsn, body))
}

// Begin some changes.
func (s *Store) Begin() *Mini {
	if s == nil {
		return nil
	}
	return &Mini{store: s}
}

// Flush the log up to a number. What it had when it was opened lasts: that was
// read from the device.
func (s *Store) Flush(lsn int) api.Errno {
	if s == nil {
		return api.ErrArg
	}
	if _, lasts := s.log.Marks(); !s.begun || lsn <= lasts {
		return api.OK
	}
	return s.log.Flush()
}

// Checkpoint: all pages are written, and the log begins anew, with a text.
func (s *Store) Checkpoint(text string) api.Errno {
	if s == nil {
		return api.ErrArg
	}
	r := record.Record{LSN: s.lsn + 1, Kind: record.State, Undo: text}
	state, e := record.Put(r)
	if e != api.OK {
		return e
	}
	if e := s.settle(); e != api.OK {
		return e
	}
	if e := s.log.Switch(r.LSN, state); e != api.OK {
		return e
	}
	s.lsn, s.begun = r.LSN, true
	return api.OK
}

// settle makes all records last, then all that they have changed: the log isn't
// needed any more then.
func (s *Store) settle() api.Errno {
	if s.begun {
		if e := s.log.Flush(); e != api.OK {
			return e
		}
	}
	return s.pool.Flush()
}

// LSN: the number of the last record.
func (s *Store) LSN() int {
	if s == nil {
		return 0
	}
	return s.lsn
}

// Room for bytes in the log.
func (s *Store) Room() int {
	const length = 2 // the bytes that tell a text's length
	if s == nil {
		return 0
	}
	return max(0, s.log.Room()-length)
}

// Evict a page.
func (s *Store) Evict(n int) api.Errno {
	if s == nil {
		return api.ErrArg
	}
	return s.pool.Evict(n)
}

// Has: is a page in a frame?
func (s *Store) Has(n int) bool {
	return s != nil && s.pool.Has(n)
}

// Pages: how many there are.
func (s *Store) Pages() int {
	if s == nil {
		return 0
	}
	return s.area.Pages()
}
