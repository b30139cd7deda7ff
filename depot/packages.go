package depot

import (
	"depot/api"
	"depot/tokens"
	"depot/words"
)

// Feed lets the public have a version (P9).
func (d *Depot) Feed(name string, version int, wants string) api.Errno {
	if !words.IsName(name) {
		return api.ErrName
	}
	return d.public.Lay(name, version, wants, api.MaxPublic)
}

// Publish lets a house have a version (P10).
func (d *Depot) Publish(house string, id int, pack string, version int, wants string) api.Errno {
	h, e := d.mayWork(house, id, api.Writer)
	if e != api.OK {
		return e
	}
	if !words.IsWord(pack) {
		return api.ErrName
	}
	e = h.stock.Lay(pack, version, wants, api.MaxOwn)
	if e != api.OK {
		return e
	}
	h.log.Publish(id, pack, version)
	return api.OK
}

// Yank takes a version back, or lets it count again (P11).
func (d *Depot) Yank(house string, id int, pack string, version int, back bool) api.Errno {
	h, e := d.mayWork(house, id, api.Writer)
	if e != api.OK {
		return e
	}
	if !words.IsWord(pack) {
		return api.ErrName
	}
	e = h.stock.Yank(pack, version, !back)
	if e != api.OK {
		return e
	}
	h.log.Yank(id, pack, version, back)
	return api.OK
}

// Grant lets another house see a package (P12).
func (d *Depot) Grant(house string, id int, pack string, to string) api.Errno {
	h, e := d.mayWork(house, id, api.Admin)
	if e != api.OK {
		return e
	}
	if !words.IsWord(pack) || !words.IsWord(to) {
		return api.ErrName
	}
	if !h.stock.Has(pack) {
		return api.ErrMissing
	}
	e = h.book.Add(pack, to)
	if e != api.OK {
		return e
	}
	h.log.Grant(id, pack, to)
	return api.OK
}

// Show tells the versions of a name (P13).
func (d *Depot) Show(house string, id int, name string) (string, api.Errno) {
	role := d.held(house, id)
	if role == tokens.NoRole {
		return "", api.ErrToken
	}
	if !words.IsName(name) {
		return "", api.ErrName
	}
	at, ok := d.seen(house, name)
	if !ok {
		return "", api.ErrMissing
	}
	versions := at.stock.Tell(at.label)
	return at.whose() + ":" + versions, api.OK
}
