// Package view shows a call the pages of some changes without leaving a trace of
// what it only read.
package view

import (
	"slices"

	"concordance/api"
	"concordance/mini"
	"concordance/page"
)

// View of some changes, for one call: the pages that it asked first, and didn't
// Set, are let go when the call is over, so that the changes are as they were
// where it answers an error, and no frame is taken by what was only read.
type View struct {
	changes *mini.Mini
	asked   []int
}

// Of some changes.
func Of(m *mini.Mini) *View {
	return &View{changes: m}
}

// Page of the changes.
func (v *View) Page(n int) (page.Page, api.Errno) {
	// A page of no Kind can't be Set: it only tells whether the caller has asked n
	// already, whose page it is then to let go.
	first := v.changes.Set(n, page.Page{}) == api.ErrState
	p, e := v.changes.Page(n)
	if e == api.OK && first {
		v.asked = append(v.asked, n)
	}
	return p, e
}

// Set a page that was asked.
func (v *View) Set(n int, p page.Page) api.Errno {
	e := v.changes.Set(n, p)
	if e == api.OK {
		v.asked = slices.DeleteFunc(v.asked, func(other int) bool { return other == n })
	}
	return e
}

// Leave what was only read.
func (v *View) Leave() {
	for _, n := range v.asked {
		v.changes.Leave(n)
	}
	v.asked = nil
}
