package scan

import (
	"slices"

	"concordance/api"
	"concordance/blink"
	"concordance/mini"
	"concordance/node"
	"concordance/page"
	"concordance/view"
)

// All entries of a tree.
func All(m *mini.Mini, root int) func(func(page.Entry) bool) {
	return func(yield func(page.Entry) bool) {
		if yield == nil {
			return
		}
		for _, p := range Leaves(m, root) {
			for _, e := range p.Entries {
				if !yield(e) {
					return
				}
			}
		}
	}
}

// Leaves of a tree.
func Leaves(m *mini.Mini, root int) func(func(int, page.Page) bool) {
	return func(yield func(int, page.Page) bool) {
		Each(m, root, yield)
	}
}

// Each leaf of a tree, as long as a function says so: the first error.
func Each(m *mini.Mini, root int, f func(int, page.Page) bool) api.Errno {
	if f == nil {
		return api.ErrArg
	}
	return row(m, root, leafLevel, f)
}

// Pages of a tree, by rising levels.
func Pages(m *mini.Mini, root int) ([]int, api.Errno) {
	var all []int
	// The root is alone in the last row.
	for level := leafLevel; !slices.Contains(all, root); level++ {
		e := row(m, root, level, func(n int, _ page.Page) bool {
			all = append(all, n)
			return true
		})
		if e != api.OK {
			return nil, e
		}
	}
	return all, api.OK
}

// row of the nodes of a level, from the first one on, as long as f says so.
func row(m *mini.Mini, root, level int, f func(int, page.Page) bool) api.Errno {
	at, _, e := blink.Seek(m, root, "", level)
	if e != api.OK {
		return e
	}
	for from := ""; ; {
		p, more, e := goOver(m, at, level, from, f)
		if e != api.OK || !more || p.High == "" {
			return e
		}
		at, from = p.Right, p.High
	}
}

// goOver the node of a level that begins at a key: it is told to f.
func goOver(m *mini.Mini, at, level int, from string, f func(int, page.Page) bool) (page.Page, bool, api.Errno) {
	v := view.Of(m)
	defer v.Leave()
	p, e := v.Page(at)
	if e != api.OK {
		return page.Page{}, false, e
	}
	// Where each covers the High of the one ahead, the Highs rise: so a row that
	// was laid by hand can't lead round and round.
	if !node.Right(p) || p.Level != level || !node.Covers(p, from) {
		return page.Page{}, false, api.ErrCorrupt
	}
	if level == leafLevel {
		// Also where it was asked ahead of the call.
		defer m.Leave(at)
	}
	return p, f(at, p), api.OK
}
