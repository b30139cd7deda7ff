package depot_test

import (
	"regexp"

	"depot/api"
)

// model is a second telling of P3 to P8, straight from the document and with
// other means than the program's, for the walks of walk_test.go.
type model struct {
	root   int
	clock  int
	houses map[string]map[int]modelToken
}

type modelToken struct {
	role, until int
	revoked     bool
}

var wordForm = regexp.MustCompile(`\A[a-z]{1,4}\z`)

func newModel(root int) *model {
	return &model{root: root, houses: map[string]map[int]modelToken{}}
}

// check is an error and whether it applies; lists of them keep the order in
// which the document names the errors.
type check struct {
	applies bool
	e       api.Errno
}

func first(checks ...check) api.Errno {
	for _, c := range checks {
		if c.applies {
			return c.e
		}
	}
	return api.OK
}

func (m *model) role(house string, id int) int {
	if house == "" && id == m.root {
		return api.Root
	}
	token, there := m.houses[house][id]
	if !there || token.revoked || m.clock >= token.until {
		return 0
	}
	return token.role
}

func (m *model) answer(c call) answer {
	role := m.role(c.house, c.id)
	tokens, there := m.houses[c.text]
	ruler := role == api.Root || role == api.Admin && c.house == c.text
	switch c.kind {
	case callTick:
		return answer{0, m.tick(c.a)}
	case callClock:
		return answer{m.clock, api.OK}
	case callMay:
		return answer{role, first(check{role == 0, api.ErrToken})}
	case callFound:
		e := first(check{role == 0, api.ErrToken}, check{role != api.Root, api.ErrRole}, check{!wordForm.MatchString(c.text), api.ErrName}, check{there, api.ErrTaken}, check{len(m.houses) == 6, api.ErrRoom})
		if e == api.OK {
			m.houses[c.text] = map[int]modelToken{}
		}
		return answer{0, e}
	case callMint:
		_, taken := tokens[c.b]
		e := first(check{role == 0, api.ErrToken}, check{!ruler, api.ErrRole}, check{!there, api.ErrMissing}, check{c.a < 1 || c.a > 3 || c.b < 1 || c.c < 1, api.ErrArg}, check{taken, api.ErrTaken}, check{len(tokens) == 8, api.ErrRoom})
		if e == api.OK {
			tokens[c.b] = modelToken{role: c.a, until: c.c}
		}
		return answer{0, e}
	}
	token, minted := tokens[c.a]
	e := first(check{role == 0, api.ErrToken}, check{!ruler, api.ErrRole}, check{!minted || token.revoked, api.ErrMissing})
	if e == api.OK {
		token.revoked = true
		tokens[c.a] = token
	}
	return answer{0, e}
}

func (m *model) tick(n int) api.Errno {
	if n < 0 {
		return api.ErrArg
	}
	const max = 1099511627776
	if n > max || m.clock+n > max {
		m.clock = max
	} else {
		m.clock += n
	}
	return api.OK
}
