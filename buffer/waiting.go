package buffer

import (
	"concordance/api"
	"concordance/blink"
	"concordance/keys"
	"concordance/mini"
	"concordance/page"
	"concordance/scan"
	"concordance/sum"
)

// How the buffer's entries are written: in the key an index, a page, and how many
// waited for that page ahead; in the value a kind, and the change's key.
const (
	placeBytes = 2
	aheadBytes = 6
	kindBytes  = 1

	mostPlace = 1<<(8*placeBytes) - 1
)

// isPlace: can changes wait for a page of an index?
func isPlace(index, n int) bool {
	return 0 <= index && index <= mostPlace && 0 <= n && n <= mostPlace
}

// place of the changes that wait for a page: what their keys begin with.
func place(index, n int) string {
	return sum.Put(index, placeBytes) + sum.Put(n, placeBytes)
}

// placeIn a key: its index, its page.
func placeIn(key string) (int, int, bool) {
	if len(key) < 2*placeBytes {
		return 0, 0, false
	}
	return sum.Get(key[:placeBytes]), sum.Get(key[placeBytes : 2*placeBytes]), true
}

// valueOf a change in the buffer.
func valueOf(x Op) string {
	return sum.Put(x.Kind, kindBytes) + x.Key
}

// opIn a value.
func opIn(value string) (Op, api.Errno) {
	if len(value) < kindBytes {
		return Op{}, api.ErrCorrupt
	}
	x := Op{Kind: sum.Get(value[:kindBytes]), Key: value[kindBytes:]}
	if !isKind(x.Kind) {
		return Op{}, api.ErrCorrupt
	}
	return x, api.OK
}

// sizeOf the entry that a change inserts.
func sizeOf(x Op) int {
	return page.Size(page.Entry{Key: x.Key})
}

// waiting is what waits for one page: the changes, the keys of their entries in
// the buffer, and its root.
type waiting struct {
	root int
	keys []string
	ops  []Op
}

func waitingFor(m *mini.Mini, index, n int) (waiting, api.Errno) {
	root, err := rootOf(m)
	if err != api.OK {
		return waiting{}, err
	}
	w := waiting{root: root}
	if !isPlace(index, n) {
		return w, api.OK
	}
	from := place(index, n)
	l, err := between(m, root, from, keys.After(from))
	if err != api.OK {
		return waiting{}, err
	}
	for _, e := range l {
		x, err := opIn(e.Value)
		if err != api.OK {
			return waiting{}, err
		}
		w.keys, w.ops = append(w.keys, e.Key), append(w.ops, x)
	}
	return w, api.OK
}

// between two keys: the entries of a tree.
func between(m *mini.Mini, root int, from, to string) ([]page.Entry, api.Errno) {
	c := scan.Open(root, from, to)
	var all []page.Entry
	// A cursor comes to no page of a tree twice; where it does, pages that were
	// laid by hand lead it round and round.
	for range api.MaxPages {
		l, over, err := c.Step(m, nil)
		if err != api.OK {
			return nil, err
		}
		all = append(all, l...)
		if over {
			return all, api.OK
		}
	}
	return nil, api.ErrCorrupt
}

// insertedBytes: how many the entries of all Inserts take.
func (w waiting) insertedBytes() int {
	bytes := 0
	for _, x := range w.ops {
		if x.Kind == Insert {
			bytes += sizeOf(x)
		}
	}
	return bytes
}

// add a change behind those that wait already.
func (w waiting) add(m *mini.Mini, index, n int, x Op) api.Errno {
	key := place(index, n) + sum.Put(len(w.ops), aheadBytes)
	return blink.Insert(m, w.root, page.Entry{Key: key, Value: valueOf(x)})
}

// remove all of them from the buffer.
func (w waiting) remove(m *mini.Mini) api.Errno {
	for _, key := range w.keys {
		if err := blink.Remove(m, w.root, key); err != api.OK {
			return err
		}
	}
	return api.OK
}

// others: how many wait beside them.
func (w waiting) others(m *mini.Mini) (int, api.Errno) {
	pending, err := Pending(m)
	if err != api.OK {
		return 0, err
	}
	if pending < len(w.ops) {
		return 0, api.ErrCorrupt
	}
	return pending - len(w.ops), api.OK
}
