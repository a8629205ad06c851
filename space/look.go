package space

import (
	"slices"

	"concordance/api"
	"concordance/mini"
	"concordance/page"
)

// look of a call at pages: those that it asked and didn't Set are let go when it
// is over, so that the changes are as they were where it answers an error, and
// no frame is taken by what was only read.
type look struct {
	changes *mini.Mini
	asked   []int
}

func (l *look) page(n int) (page.Page, api.Errno) {
	// A page of no Kind can't be Set: it only tells whether the caller has asked n
	// already, whose page it is then to let go.
	first := l.changes.Set(n, page.Page{}) == api.ErrState
	p, e := l.changes.Page(n)
	if e == api.OK && first {
		l.asked = append(l.asked, n)
	}
	return p, e
}

func (l *look) set(n int, p page.Page) api.Errno {
	e := l.changes.Set(n, p)
	if e == api.OK {
		l.asked = slices.DeleteFunc(l.asked, func(other int) bool { return other == n })
	}
	return e
}

// leave what was only read.
func (l *look) leave() {
	for _, n := range l.asked {
		l.changes.Leave(n)
	}
	l.asked = nil
}

// meta is page 0.
func (l *look) meta() (page.Page, api.Errno) {
	p, e := l.page(0)
	if e == api.OK && p.Kind != Meta {
		return page.Page{}, api.ErrCorrupt
	}
	return p, e
}

// freePage tells the Right of a page that was given back, and lets it go at once:
// there may be more of them than frames.
func (l *look) freePage(n int) (int, api.Errno) {
	one := &look{changes: l.changes}
	defer one.leave()
	p, e := one.page(n)
	if e == api.OK && p.Kind != Free {
		return 0, api.ErrCorrupt
	}
	return p.Right, e
}
