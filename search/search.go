// Package search: finds versions of names that go together.
package search

import (
	"depot/api"
	"depot/wants"
)

// Pick is a name and the version of it that is chosen.
type Pick struct {
	Name    string
	Version int
}

// link is a want, with the place of its name among the names of the search
// instead of the name: no texts are compared while versions are tried.
type link struct {
	name int
	from int
	to   int
}

type offer struct {
	there bool
	wants []link
}

type entry struct {
	name   string
	offers [api.MaxVersion + 1]offer // by version
	chosen int                       // a version, or 0
}

// Search is the list of wants to go through, the names that are wanted, and
// what is offered and chosen of these. The first of the list are those asked.
type Search struct {
	list  []link
	asked int
	names []entry
	told  int
	left  int // steps that may still be made
}

// New makes a search for what was asked. Nothing is offered yet.
func New(asked []wants.Want) *Search {
	s := &Search{asked: len(asked)}
	links := s.linked(asked)
	s.list = links
	return s
}

// Next tells a name that is wanted and was not told before. What is offered
// may want names that nothing wanted before: so behind an Offer there may be
// more to tell.
func (s *Search) Next() (string, bool) {
	if s.told >= len(s.names) {
		return "", false
	}
	name := s.names[s.told].name
	s.told++
	return name, true
}

// Offer offers a version and what it wants. A yanked one is none, unless just
// this version was asked for.
func (s *Search) Offer(name string, version int, list []wants.Want, yanked bool) {
	if version < 1 || version > api.MaxVersion {
		return
	}
	i := s.place(name)
	if yanked && !s.isAskedAlone(i, version) {
		return
	}
	links := s.linked(list)
	s.names[i].offers[version] = offer{there: true, wants: links}
}

// Run tries versions, in at most budget steps. It tells what goes together,
// the least name first, and the steps that were made; or ErrNone, or
// ErrBudget. It is called once, behind all offers.
func (s *Search) Run(budget int) ([]Pick, int, api.Errno) {
	s.left = budget
	e := s.goOn(0)
	steps := budget - s.left
	if e != api.OK {
		return nil, steps, e
	}
	return s.picks(), steps, api.OK
}

// goOn goes through the list from the place at on. It answers ErrNone, if this
// try fails.
func (s *Search) goOn(at int) api.Errno {
	for i := at; i < len(s.list); i++ {
		want := s.list[i]
		chosen := s.names[want.name].chosen
		if chosen == 0 {
			return s.tryEach(want, i+1)
		}
		if !want.has(chosen) {
			return api.ErrNone
		}
	}
	return api.OK
}

// tryEach tries the candidates of a want whose name is not chosen, each with
// the rest of the list, which begins at next. It calls itself by goOn, but
// with one name more chosen each time: so no deeper than there are names.
func (s *Search) tryEach(want link, next int) api.Errno {
	before := len(s.list)
	for version := api.MaxVersion; version >= 1; version-- {
		candidate := s.names[want.name].offers[version]
		if !candidate.there || !want.has(version) {
			continue
		}
		if s.left <= 0 {
			return api.ErrBudget
		}
		s.left--
		s.names[want.name].chosen = version
		s.list = append(s.list, candidate.wants...)
		e := s.goOn(next)
		if e != api.ErrNone {
			return e
		}
		s.names[want.name].chosen = 0
		s.list = s.list[:before]
	}
	return api.ErrNone
}

func (l link) has(version int) bool {
	return version >= l.from && version <= l.to
}

// linked gives wants as links. Names that were not wanted before become known.
func (s *Search) linked(list []wants.Want) []link {
	var links []link
	for i := 0; i < len(list); i++ {
		name := s.place(list[i].Name)
		links = append(links, link{name: name, from: list[i].From, to: list[i].To})
	}
	return links
}

// place tells the place of a name, which becomes known if it was not.
func (s *Search) place(name string) int {
	for i := 0; i < len(s.names); i++ {
		if s.names[i].name == name {
			return i
		}
	}
	s.names = append(s.names, entry{name: name})
	return len(s.names) - 1
}

// isAskedAlone tells whether among the wants that were asked there is one of
// just this version.
func (s *Search) isAskedAlone(name int, version int) bool {
	for i := 0; i < s.asked; i++ {
		want := s.list[i]
		if want.name == name && want.from == version && want.to == version {
			return true
		}
	}
	return false
}

// picks tells all that is chosen, the least name first.
func (s *Search) picks() []Pick {
	var list []Pick
	for i := 0; i < len(s.names); i++ {
		if s.names[i].chosen != 0 {
			list = inserted(list, Pick{Name: s.names[i].name, Version: s.names[i].chosen})
		}
	}
	return list
}

// inserted lays a pick into a list with the least name first, and keeps it so.
func inserted(list []Pick, fresh Pick) []Pick {
	list = append(list, fresh)
	for i := len(list) - 1; i > 0 && list[i].Name < list[i-1].Name; i-- {
		greater := list[i-1]
		list[i-1] = list[i]
		list[i] = greater
	}
	return list
}
