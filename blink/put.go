package blink

import (
	"concordance/api"
	"concordance/mini"
	"concordance/node"
	"concordance/page"
	"concordance/space"
	"concordance/view"
)

const mostLevel = 255 // that a page can have

// Put an entry into a node that covers it.
func Put(m *mini.Mini, root, at int, e page.Entry) ([]Post, api.Errno) {
	v := view.Of(m)
	defer v.Leave()
	p, err := nodeOf(v, at)
	if err != api.OK {
		return nil, err
	}
	with, err := node.Insert(p, e)
	if err == api.OK {
		return nil, v.Set(at, with)
	}
	if err != api.ErrFull {
		return nil, err
	}
	halves, posts, err := split(m, root, at, p)
	if err != api.OK {
		return nil, err
	}
	more, err := Put(m, root, halves.of(e.Key), e)
	if err != api.OK {
		return nil, err
	}
	return append(posts, more...), api.OK
}

// halves of a node that was split: their pages, and where the right one begins.
type halves struct {
	left, right int
	from        string
}

// of a key: the half that covers it.
func (h halves) of(key string) int {
	if key < h.from {
		return h.left
	}
	return h.right
}

// split the node p of the page at: its halves, and what is to be posted.
func split(m *mini.Mini, root, at int, p page.Page) (halves, []Post, api.Errno) {
	if at == root {
		h, err := splitRoot(m, root, p)
		return h, nil, err
	}
	h, err := splitInto(m, at, p)
	if err != api.OK {
		return halves{}, nil, err
	}
	return h, []Post{{Level: p.Level + 1, Left: at, Right: h.right, Key: h.from}}, api.OK
}

// splitRoot, which stays the root: a node above both halves.
func splitRoot(m *mini.Mini, root int, p page.Page) (halves, api.Errno) {
	// Looked at here, so that nothing was taken where no page can be that high.
	if p.Level == mostLevel {
		return halves{}, api.ErrArg
	}
	left, err := space.Take(m)
	if err != api.OK {
		return halves{}, err
	}
	h, err := splitInto(m, left, p)
	if err != api.OK {
		return halves{}, err
	}
	above := page.Page{Kind: space.Node, Level: p.Level + 1, Entries: []page.Entry{
		{Value: node.Link(h.left)},
		{Key: h.from, Value: node.Link(h.right)},
	}}
	return h, m.Set(root, above)
}

// splitInto the page left, which was asked, and one that is taken.
func splitInto(m *mini.Mini, left int, p page.Page) (halves, api.Errno) {
	right, err := space.Take(m)
	if err != api.OK {
		return halves{}, err
	}
	first, rest, err := node.Split(p, right)
	if err != api.OK {
		return halves{}, err
	}
	if err := m.Set(left, first); err != api.OK {
		return halves{}, err
	}
	return halves{left, right, first.High}, m.Set(right, rest)
}
