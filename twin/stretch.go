package twin

import (
	"strings"

	"concordance/api"
)

// stretch of a device: things one behind the other, of as many sectors each.
type stretch struct {
	from, count, each int
}

func (s stretch) sectors() int {
	return s.count * s.each
}

// within: are all its sectors among so many? (No sum that could overflow.)
func (s stretch) within(size int) bool {
	return s.from >= 0 && s.from <= size-s.sectors()
}

// overlaps: have two of them a sector in common?
func (s stretch) overlaps(other stretch) bool {
	return s.from < other.from+other.sectors() && other.from < s.from+s.sectors()
}

// read the sectors of a thing as one text.
func (a *Area) read(s stretch, thing int) (string, api.Errno) {
	var text strings.Builder
	for n := range s.each {
		sector, e := a.device.Read(s.from + thing*s.each + n)
		if e != api.OK {
			return "", e
		}
		text.WriteString(sector)
	}
	return text.String(), api.OK
}

// write the sectors of a thing, in order; its text fills them.
func (a *Area) write(s stretch, thing int, text string) api.Errno {
	for n := range s.each {
		sector := text[n*api.Sector : (n+1)*api.Sector]
		if e := a.device.Write(s.from+thing*s.each+n, sector); e != api.OK {
			return e
		}
	}
	return api.OK
}
