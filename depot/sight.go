package depot

import (
	"depot/shelf"
	"depot/words"
)

// place is where the versions of a name lie: under which label of which
// shelf, and of which house that is; the public's has none.
type place struct {
	owner *houseRecord
	stock *shelf.Shelf
	label string
}

// seen tells where the versions of a name lie, if holders of the house see
// it. A name without a version and one that may not be seen are told alike.
func (d *Depot) seen(house string, name string) (place, bool) {
	at := d.placeOf(name)
	if !at.isOpenTo(house) {
		return place{}, false
	}
	if !at.stock.Has(at.label) {
		return place{}, false
	}
	return at, true
}

// placeOf tells where the versions of a name lie, if there are any. The house
// is looked for each time: it may have come since the public was fed the name.
func (d *Depot) placeOf(name string) place {
	first, second, scoped := words.Split(name)
	if scoped {
		h := d.find(first)
		if h != nil {
			return place{owner: h, stock: &h.stock, label: second}
		}
	}
	return place{stock: &d.public, label: name}
}

// isOpenTo tells whether holders of the house may see what lies there. Root's
// house is the empty text, which no house is called and none is granted to.
func (p place) isOpenTo(house string) bool {
	if p.owner == nil || p.owner.name == house {
		return true
	}
	return p.owner.book.Has(p.label, house)
}

// whose tells whose the versions are that lie there.
func (p place) whose() string {
	if p.owner == nil {
		return "public"
	}
	return p.owner.name
}
