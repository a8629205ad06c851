package index

import (
	"concordance/api"
	"concordance/bitmap"
	"concordance/blink"
	"concordance/mini"
	"concordance/node"
	"concordance/page"
	"concordance/view"
)

// flagAll leaves for which nothing waits: the one that was changed, and those
// that it was split into.
func (x Index) flagAll(m *mini.Mini, changed int, posts []blink.Post) api.Errno {
	if !x.Waits {
		return api.OK
	}
	leaves, err := x.leavesOf(m, changed)
	if err != api.OK {
		return err
	}
	for _, post := range posts {
		leaves = append(leaves, post.Right)
	}
	for _, n := range leaves {
		if err := x.flag(m, n); err != api.OK {
			return err
		}
	}
	return api.OK
}

// leavesOf a page that was a leaf: itself; of the root none, since it has no
// flags, but both halves, where it was split.
func (x Index) leavesOf(m *mini.Mini, n int) ([]int, api.Errno) {
	if n != x.Root {
		return []int{n}, api.OK
	}
	v := view.Of(m)
	defer v.Leave()
	p, err := v.Page(n)
	if err != api.OK || p.Level == leafLevel {
		return nil, err
	}
	var halves []int
	for _, e := range p.Entries {
		half, err := node.Child(p, e.Key)
		if err != api.OK {
			return nil, err
		}
		halves = append(halves, half)
	}
	return halves, api.OK
}

// flag a leaf for which nothing waits.
func (x Index) flag(m *mini.Mini, n int) api.Errno {
	v := view.Of(m)
	defer v.Leave()
	p, err := v.Page(n)
	if err != api.OK {
		return err
	}
	closed, err := x.closed(m, p)
	if err != api.OK {
		return err
	}
	return bitmap.Set(m, n, bitmap.Flags{Class: bitmap.Class(page.Free(p)), Closed: closed})
}

// closed: has no node above the leaf p an entry for its right neighbour?
func (x Index) closed(m *mini.Mini, p page.Page) (bool, api.Errno) {
	if p.High == "" {
		return false, api.OK
	}
	at, _, err := blink.Seek(m, x.Root, p.High, aboveLeafs)
	if err == api.ErrState { // there is no node above
		return true, api.OK
	}
	if err != api.OK {
		return false, err
	}
	v := view.Of(m)
	defer v.Leave()
	above, err := v.Page(at)
	if err != api.OK {
		return false, err
	}
	_, there := node.Find(above, p.High)
	return !there, api.OK
}

// open the leaf of a post that was settled: the node above has the entry for its
// right neighbour now.
func (x Index) open(m *mini.Mini, settled blink.Post) api.Errno {
	n, err := leafBelow(m, settled.Left, settled.Key)
	if err != api.OK {
		return err
	}
	// All else stays, as changes may wait for it already, where the post was
	// settled by another work, too.
	f, err := bitmap.Get(m, n)
	if err != api.OK {
		return err
	}
	f.Closed = false
	return bitmap.Set(m, n, f)
}

// leafBelow a key, which is its High: from a leaf on to the right.
func leafBelow(m *mini.Mini, from int, high string) (int, api.Errno) {
	for n, below := from, ""; ; {
		p, err := leafOf(m, n)
		if err != api.OK {
			return 0, err
		}
		if p.High == high {
			return n, api.OK
		}
		// The Highs rise, till the last one has none: so pages that were laid by hand
		// can't lead round and round.
		if p.High <= below {
			return 0, api.ErrCorrupt
		}
		n, below = p.Right, p.High
	}
}

// leafOf a page.
func leafOf(m *mini.Mini, n int) (page.Page, api.Errno) {
	v := view.Of(m)
	defer v.Leave()
	p, err := v.Page(n)
	if err == api.OK && !isLeaf(p) {
		return page.Page{}, api.ErrCorrupt
	}
	return p, err
}
