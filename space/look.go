package space

import (
	"slices"

	"concordance/api"
	"concordance/mini"
	"concordance/page"
	"concordance/view"
)

// metaOf is page 0.
func metaOf(v *view.View) (page.Page, api.Errno) {
	p, e := v.Page(0)
	if e == api.OK && p.Kind != Meta {
		return page.Page{}, api.ErrCorrupt
	}
	return p, e
}

// stored page of a number that page 0 tells.
func stored(v *view.View, n int) (page.Page, api.Errno) {
	p, e := v.Page(n)
	if e == api.ErrArg {
		return p, api.ErrFull
	}
	return p, e
}

// givenBack: all pages that are free, from the one on that was given back last.
func givenBack(m *mini.Mini, last int) ([]int, api.Errno) {
	var all []int
	for n := last; n != 0; {
		right, e := freePage(m, n)
		if e != api.OK {
			return nil, e
		}
		if slices.Contains(all, n) {
			return nil, api.ErrCorrupt
		}
		all = append(all, n)
		n = right
	}
	return all, api.OK
}

// freePage tells the Right of a page that was given back, and lets it go at once:
// there may be more of them than frames.
func freePage(m *mini.Mini, n int) (int, api.Errno) {
	v := view.Of(m)
	defer v.Leave()
	p, e := v.Page(n)
	if e == api.OK && p.Kind != Free {
		return 0, api.ErrCorrupt
	}
	return p.Right, e
}
