// Package shelf: the versions that a house has published, or that the public
// was fed.
package shelf

import (
	"strconv"

	"depot/api"
	"depot/wants"
)

type edition struct {
	label   string
	version int
	wants   []wants.Want
	yanked  bool
}

// Shelf is versions under labels, at first none. A label is a package's word
// on a house's shelf, and a name on the public's.
type Shelf struct {
	list []edition
}

// Lay lays a version and what it wants under a label, if there are fewer than
// room versions, all told.
func (s *Shelf) Lay(label string, version int, text string, room int) api.Errno {
	if version < 1 || version > api.MaxVersion {
		return api.ErrArg
	}
	list, ok := wants.Parse(text)
	if !ok {
		return api.ErrDeps
	}
	if s.find(label, version) >= 0 {
		return api.ErrTaken
	}
	if len(s.list) >= room {
		return api.ErrRoom
	}
	// A copy of the label, so that no text of which it was a part is kept with it.
	fresh := edition{label: string([]byte(label)), version: version, wants: list}
	s.list = append(s.list, fresh)
	return api.OK
}

// Yank marks a version as yanked, or takes that mark away.
func (s *Shelf) Yank(label string, version int, yanked bool) api.Errno {
	i := s.find(label, version)
	if i < 0 {
		return api.ErrMissing
	}
	s.list[i].yanked = yanked
	return api.OK
}

// Has tells whether there is a version under a label.
func (s *Shelf) Has(label string) bool {
	for i := 0; i < len(s.list); i++ {
		if s.list[i].label == label {
			return true
		}
	}
	return false
}

// Look tells what a version wants, whether it is yanked, and whether it is
// there. The list is the shelf's own: it is not to be changed.
func (s *Shelf) Look(label string, version int) ([]wants.Want, bool, bool) {
	i := s.find(label, version)
	if i < 0 {
		return nil, false, false
	}
	return s.list[i].wants, s.list[i].yanked, true
}

// Tell writes the versions under a label, the least first, with `,` between
// each two and `*` behind each that is yanked.
func (s *Shelf) Tell(label string) string {
	text := ""
	for version := 1; version <= api.MaxVersion; version++ {
		i := s.find(label, version)
		if i < 0 {
			continue
		}
		if text != "" {
			text += ","
		}
		text += strconv.Itoa(version)
		if s.list[i].yanked {
			text += "*"
		}
	}
	return text
}

// find tells the place of a version, or -1.
func (s *Shelf) find(label string, version int) int {
	for i := 0; i < len(s.list); i++ {
		if s.list[i].version == version && s.list[i].label == label {
			return i
		}
	}
	return -1
}
