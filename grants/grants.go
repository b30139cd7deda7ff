// Package grants: which packages of one house are granted to which houses.
package grants

import "depot/api"

type grant struct {
	pack string
	to   string
}

// Book is the grants of one house, at first none.
type Book struct {
	list []grant
}

// Add grants a package to a house. Whether there is such a house is not
// asked: it may come later.
func (b *Book) Add(pack string, to string) api.Errno {
	if b.Has(pack, to) {
		return api.ErrTaken
	}
	if len(b.list) >= api.MaxGrants {
		return api.ErrRoom
	}
	// Copies, so that no texts of which these were parts are kept with them.
	fresh := grant{pack: string([]byte(pack)), to: string([]byte(to))}
	b.list = append(b.list, fresh)
	return api.OK
}

// Has tells whether a package is granted to a house.
func (b *Book) Has(pack string, to string) bool {
	for i := 0; i < len(b.list); i++ {
		if b.list[i].pack == pack && b.list[i].to == to {
			return true
		}
	}
	return false
}
