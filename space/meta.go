package space

import (
	"slices"
	"strings"

	"concordance/page"
	"concordance/sum"
)

const (
	numberBytes = 6
	mostNumber  = 1<<(8*numberBytes) - 1
)

// number by a name in page 0; 0, where there is none.
func number(meta page.Page, name string) int {
	at, found := find(meta, name)
	if !found {
		return 0
	}
	return sum.Get(meta.Entries[at].Value)
}

// with a number by a name: page 0 as it is then.
func with(meta page.Page, name string, n int) page.Page {
	e := page.Entry{Key: name, Value: sum.Put(n, numberBytes)}
	at, found := find(meta, name)
	end := at
	if found {
		end++
	}
	meta.Entries = slices.Replace(slices.Clone(meta.Entries), at, end, e)
	return meta
}

// find a name's place in page 0, or the place where it would stand, and whether
// it is there.
func find(meta page.Page, name string) (int, bool) {
	return slices.BinarySearchFunc(meta.Entries, name, func(e page.Entry, name string) int {
		return strings.Compare(e.Key, name)
	})
}
