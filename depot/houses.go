package depot

import (
	"depot/api"
	"depot/grants"
	"depot/journal"
	"depot/shelf"
	"depot/tokens"
	"depot/words"
)

type houseRecord struct {
	name  string
	ring  tokens.Ring
	stock shelf.Shelf
	book  grants.Book
	log   journal.Journal
}

// May tells the role of a token (P5).
func (d *Depot) May(house string, id int) (int, api.Errno) {
	role := d.held(house, id)
	if role == tokens.NoRole {
		return 0, api.ErrToken
	}
	return role, api.OK
}

// Found makes a house (P6).
func (d *Depot) Found(house string, id int, name string) api.Errno {
	role := d.held(house, id)
	if role == tokens.NoRole {
		return api.ErrToken
	}
	if role != api.Root {
		return api.ErrRole
	}
	if !words.IsWord(name) {
		return api.ErrName
	}
	if d.find(name) != nil {
		return api.ErrTaken
	}
	if len(d.houses) >= api.MaxHouses {
		return api.ErrRoom
	}
	// A copy of the name, so that no text of which it was a part is kept with it.
	fresh := houseRecord{name: string([]byte(name))}
	d.houses = append(d.houses, fresh)
	return api.OK
}

// Mint makes a token (P7).
func (d *Depot) Mint(house string, id int, of string, role int, fresh int, until int) api.Errno {
	e := d.mayManage(house, id, of)
	if e != api.OK {
		return e
	}
	h := d.find(of)
	if h == nil {
		return api.ErrMissing
	}
	e = h.ring.Mint(role, fresh, until)
	if e != api.OK {
		return e
	}
	h.log.Mint(id, fresh, role, until)
	return api.OK
}

// Revoke lets a token count no more (P8).
func (d *Depot) Revoke(house string, id int, of string, old int) api.Errno {
	e := d.mayManage(house, id, of)
	if e != api.OK {
		return e
	}
	h := d.find(of)
	if h == nil {
		return api.ErrMissing
	}
	e = h.ring.Revoke(old)
	if e != api.OK {
		return e
	}
	h.log.Revoke(id, old)
	return api.OK
}

// held tells the role that is held by what the caller shows, or NoRole.
func (d *Depot) held(house string, id int) int {
	if house == "" {
		if id == d.root {
			return api.Root
		}
		return tokens.NoRole
	}
	h := d.find(house)
	if h == nil {
		return tokens.NoRole
	}
	return h.ring.Role(id, d.clock)
}

// mayManage answers OK if the caller may mint and revoke tokens of the house
// of. Whether there is such a house is not asked: an Admin of another one is
// not to learn it.
func (d *Depot) mayManage(house string, id int, of string) api.Errno {
	role := d.held(house, id)
	if role == tokens.NoRole {
		return api.ErrToken
	}
	if role == api.Root {
		return api.OK
	}
	if role == api.Admin && house == of {
		return api.OK
	}
	return api.ErrRole
}

// mayWork gives the caller's house, if the caller holds there the role least
// or a greater one. Root is greater than all, but works in no house.
func (d *Depot) mayWork(house string, id int, least int) (*houseRecord, api.Errno) {
	role := d.held(house, id)
	if role == tokens.NoRole {
		return nil, api.ErrToken
	}
	if role < least || role == api.Root {
		return nil, api.ErrRole
	}
	return d.find(house), api.OK
}

// find gives the house of this name, or nil. Behind a Found it is to be asked
// for anew: the list of houses may lie elsewhere then.
func (d *Depot) find(name string) *houseRecord {
	for i := 0; i < len(d.houses); i++ {
		if d.houses[i].name == name {
			return &d.houses[i]
		}
	}
	return nil
}
