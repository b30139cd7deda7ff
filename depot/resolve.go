package depot

import (
	"strconv"

	"depot/api"
	"depot/search"
	"depot/tokens"
	"depot/wants"
)

// Resolve tells which versions go together (P14).
func (d *Depot) Resolve(house string, id int, wants string, budget int) (string, int, api.Errno) {
	role := d.held(house, id)
	if role == tokens.NoRole {
		return "", 0, api.ErrToken
	}
	return d.resolveFor(house, wants, budget)
}

// resolveFor tells what goes together of what holders of the house see.
func (d *Depot) resolveFor(house string, text string, budget int) (string, int, api.Errno) {
	asked, ok := wants.Parse(text)
	if !ok {
		return "", 0, api.ErrDeps
	}
	if budget < 0 || budget > api.MaxBudget {
		return "", 0, api.ErrArg
	}
	s := search.New(asked)
	d.offerTo(s, house)
	picks, steps, e := s.Run(budget)
	if e != api.OK {
		return "", steps, e
	}
	return d.written(picks), steps, api.OK
}

// offerTo offers a search all versions that holders of the house see of the
// names that it wants. It ends, for what is on the shelves wants only so many
// names.
func (d *Depot) offerTo(s *search.Search, house string) {
	name, more := s.Next()
	for more {
		at, ok := d.seen(house, name)
		if ok {
			at.offerAll(s, name)
		}
		name, more = s.Next()
	}
}

// offerAll offers a search all versions that lie there.
func (p place) offerAll(s *search.Search, name string) {
	for version := 1; version <= api.MaxVersion; version++ {
		list, yanked, there := p.stock.Look(p.label, version)
		if there {
			s.Offer(name, version, list, yanked)
		}
	}
}

// written writes picks as Resolve tells them.
func (d *Depot) written(picks []search.Pick) string {
	text := ""
	for i := 0; i < len(picks); i++ {
		at := d.placeOf(picks[i].Name)
		whose := at.whose()
		version := strconv.Itoa(picks[i].Version)
		text += picks[i].Name + "@" + version + "#" + whose + ";"
	}
	return text
}
