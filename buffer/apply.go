package buffer

import (
	"slices"

	"concordance/api"
	"concordance/mini"
	"concordance/node"
	"concordance/page"
	"concordance/view"
)

// The kinds of changes of a leaf.
const (
	Insert = iota + 1
	Mark
	Unmark
	Purge
)

// Op is a change of a leaf: its kind, the entry's key.
type Op struct {
	Kind int
	Key  string
}

func isKind(n int) bool {
	return Insert <= n && n <= Purge
}

// Apply a change to a leaf.
func Apply(p page.Page, x Op) (page.Page, api.Errno) {
	// Also where nothing changes the answer shares no list with p.
	p.Entries = slices.Clone(p.Entries)
	switch x.Kind {
	case Insert:
		return inserted(p, x.Key)
	case Mark, Unmark:
		return marked(p, x.Key, x.Kind == Mark), api.OK
	case Purge:
		return purged(p, x.Key), api.OK
	}
	return page.Page{}, api.ErrArg
}

// inserted: the leaf with an entry of a key that isn't marked.
func inserted(p page.Page, key string) (page.Page, api.Errno) {
	with, err := node.Insert(p, page.Entry{Key: key})
	if err == api.ErrExists {
		return marked(p, key, false), api.OK
	}
	return with, err
}

// marked, or not marked, is the entry of a key, where there is one.
func marked(p page.Page, key string, is bool) page.Page {
	with, err := node.Mark(p, key, is)
	if err != api.OK {
		return p
	}
	return with
}

// purged of the entry of a key, where that is marked.
func purged(p page.Page, key string) page.Page {
	at, there := node.Find(p, key)
	if !there || !p.Entries[at].Marked {
		return p
	}
	without, err := node.Remove(p, key)
	if err != api.OK {
		return p
	}
	return without
}

// applyAll changes to the page of a leaf: how many bytes it has free then.
func applyAll(m *mini.Mini, n int, l []Op) (int, api.Errno) {
	v := view.Of(m)
	defer v.Leave()
	p, err := v.Page(n)
	if err != api.OK {
		return 0, err
	}
	if !node.Right(p) || p.Level != 0 {
		return 0, api.ErrCorrupt
	}
	for _, x := range l {
		if p, err = Apply(p, x); err != api.OK {
			return 0, api.ErrCorrupt
		}
	}
	return page.Free(p), v.Set(n, p)
}
