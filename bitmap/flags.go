package bitmap

import (
	"slices"

	"concordance/page"
	"concordance/space"
)

// How flags stand in their page.
const (
	flagBits   = 4 // of a page
	perByte    = 2
	valueBytes = 100
	perEntry   = perByte * valueBytes // pages
	entries    = 4

	onePage  = 1<<flagBits - 1 // its bits alone
	classes  = 3
	buffered = 4
	closed   = 8
)

// noFlags: the page of flags, where none is set.
func noFlags() page.Page {
	p := page.Page{Kind: space.Bits}
	for i := range entries {
		p.Entries = append(p.Entries, page.Entry{
			Key:   string([]byte{byte(i)}),
			Value: string(make([]byte, valueBytes)),
		})
	}
	return p
}

// hasFlags: is it a page of flags?
func hasFlags(p page.Page) bool {
	otherLength := func(e page.Entry) bool { return len(e.Value) != valueBytes }
	return p.Kind == space.Bits && len(p.Entries) == entries && !slices.ContainsFunc(p.Entries, otherLength)
}

// bitsIn the page of flags, of page n.
func bitsIn(p page.Page, n int) int {
	entry, at, shift := place(n)
	return int(p.Entries[entry].Value[at]) >> shift & onePage
}

// with other bits of page n: the page of flags as it is then.
func with(p page.Page, n, bits int) page.Page {
	entry, at, shift := place(n)
	p.Entries = slices.Clone(p.Entries)
	value := []byte(p.Entries[entry].Value)
	value[at] = byte(int(value[at])&^(onePage<<shift) | bits<<shift)
	p.Entries[entry].Value = string(value)
	return p
}

// place of the bits of page n: the entry, the byte of its value, and how far up
// in it. The first of the two pages in a byte has the higher half.
func place(n int) (entry, at, shift int) {
	entry, n = n/perEntry, n%perEntry
	return entry, n / perByte, (perByte - 1 - n%perByte) * flagBits
}

// flagsOf bits.
func flagsOf(bits int) Flags {
	return Flags{Class: bits & classes, Buffered: bits&buffered != 0, Closed: bits&closed != 0}
}

// bitsFor flags.
func bitsFor(f Flags) int {
	bits := f.Class
	if f.Buffered {
		bits |= buffered
	}
	if f.Closed {
		bits |= closed
	}
	return bits
}
