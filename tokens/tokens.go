// Package tokens: the tokens of one house, and which of them count.
package tokens

import "depot/api"

// NoRole is below every role: nobody holds it.
const NoRole = 0

type token struct {
	number  int
	role    int
	until   int
	revoked bool
}

// Ring is the tokens of one house, at first none. Those that ended or were
// revoked stay in it: their numbers stay taken, and their room too.
type Ring struct {
	list []token
}

// Role tells the role of the token with this number, or NoRole if there is
// none that counts at this time.
func (r *Ring) Role(number int, clock int) int {
	i := r.find(number)
	if i < 0 {
		return NoRole
	}
	t := r.list[i]
	if t.revoked || clock >= t.until {
		return NoRole
	}
	return t.role
}

// Mint lays a new token into the ring.
func (r *Ring) Mint(role int, fresh int, until int) api.Errno {
	if role < api.Reader || role > api.Admin || fresh < 1 || until < 1 {
		return api.ErrArg
	}
	if r.find(fresh) >= 0 {
		return api.ErrTaken
	}
	if len(r.list) >= api.MaxTokens {
		return api.ErrRoom
	}
	r.list = append(r.list, token{number: fresh, role: role, until: until})
	return api.OK
}

// Revoke lets a token count no more. Time is not asked, for one that ended
// can be revoked as well.
func (r *Ring) Revoke(old int) api.Errno {
	i := r.find(old)
	if i < 0 || r.list[i].revoked {
		return api.ErrMissing
	}
	r.list[i].revoked = true
	return api.OK
}

// find tells the place of the token with this number, or -1.
func (r *Ring) find(number int) int {
	for i := 0; i < len(r.list); i++ {
		if r.list[i].number == number {
			return i
		}
	}
	return -1
}
