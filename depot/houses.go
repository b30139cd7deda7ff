package depot

import (
	"depot/api"
	"depot/tokens"
	"depot/words"
)

type houseRecord struct {
	name string
	ring tokens.Ring
}

// May tells the role of a token (P5).
func (d *Depot) May(house string, id int) (int, api.Errno) {
	role := d.held(house, id)
	if role == tokens.NoRole {
		return 0, api.ErrToken
	}
	return role, api.OK
}

// Found makes a house (P6).
func (d *Depot) Found(house string, id int, name string) api.Errno {
	role := d.held(house, id)
	if role == tokens.NoRole {
		return api.ErrToken
	}
	if role != api.Root {
		return api.ErrRole
	}
	if !words.IsWord(name) {
		return api.ErrName
	}
	if d.find(name) >= 0 {
		return api.ErrTaken
	}
	if len(d.houses) >= api.MaxHouses {
		return api.ErrRoom
	}
	// A copy of the name, so that no text of which it was a part is kept with it.
	fresh := houseRecord{name: string([]byte(name))}
	d.houses = append(d.houses, fresh)
	return api.OK
}

// Mint makes a token (P7).
func (d *Depot) Mint(house string, id int, of string, role int, fresh int, until int) api.Errno {
	e := d.mayManage(house, id, of)
	if e != api.OK {
		return e
	}
	i := d.find(of)
	if i < 0 {
		return api.ErrMissing
	}
	return d.houses[i].ring.Mint(role, fresh, until)
}

// Revoke lets a token count no more (P8).
func (d *Depot) Revoke(house string, id int, of string, old int) api.Errno {
	e := d.mayManage(house, id, of)
	if e != api.OK {
		return e
	}
	i := d.find(of)
	if i < 0 {
		return api.ErrMissing
	}
	return d.houses[i].ring.Revoke(old)
}

// held tells the role that is held by what the caller shows, or NoRole.
func (d *Depot) held(house string, id int) int {
	if house == "" {
		if id == d.root {
			return api.Root
		}
		return tokens.NoRole
	}
	i := d.find(house)
	if i < 0 {
		return tokens.NoRole
	}
	return d.houses[i].ring.Role(id, d.clock)
}

// mayManage answers OK if the caller may mint and revoke tokens of the house
// of. Whether there is such a house is not asked: an Admin of another one is
// not to learn it.
func (d *Depot) mayManage(house string, id int, of string) api.Errno {
	role := d.held(house, id)
	if role == tokens.NoRole {
		return api.ErrToken
	}
	if role == api.Root {
		return api.OK
	}
	if role == api.Admin && house == of {
		return api.OK
	}
	return api.ErrRole
}

// find tells the place of the house of this name, or -1.
func (d *Depot) find(name string) int {
	for i := 0; i < len(d.houses); i++ {
		if d.houses[i].name == name {
			return i
		}
	}
	return -1
}
