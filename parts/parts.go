// Package parts takes the parts of a text, numbers and texts of known length,
// from its front.
package parts

import "concordance/sum"

// Reader of a text's parts. Once one wasn't there, none is any more: so it is
// enough to ask Short behind several of them.
type Reader struct {
	rest  string
	short bool
}

// Of a text: its parts, from the front on.
func Of(s string) *Reader {
	return &Reader{rest: s}
}

// Text of so many bytes; the empty one, where they aren't there.
func (r *Reader) Text(size int) string {
	if r.short || size > len(r.rest) {
		r.short = true
		return ""
	}
	s := r.rest[:size]
	r.rest = r.rest[size:]
	return s
}

// Number in so many bytes; 0, where they aren't there.
func (r *Reader) Number(size int) int {
	return sum.Get(r.Text(size))
}

// Short: did the text end ahead of a part?
func (r *Reader) Short() bool {
	return r.short
}

// Rest is what wasn't taken yet.
func (r *Reader) Rest() string {
	return r.rest
}
