package depot_test

import (
	"fmt"
	"regexp"
	"sort"
	"strings"

	"depot/api"
)

// model is a second telling of P3 to P13, straight from the document and with
// other means than the program's, for the walks of walk_test.go.
type model struct {
	root   int
	clock  int
	houses map[string]*modelHouse
	public modelShelf
}

type modelHouse struct {
	tokens  map[int]modelToken
	shelf   modelShelf
	granted map[string]bool // a package, a blank and a house
}

type modelToken struct {
	role, until int
	revoked     bool
}

// modelShelf says of each name and version whether it is yanked.
type modelShelf map[string]bool

const oneName = `[a-z]{1,4}(/[a-z]{1,4})?`

var (
	wordForm  = regexp.MustCompile(`\A[a-z]{1,4}\z`)
	nameForm  = regexp.MustCompile(`\A` + oneName + `\z`)
	wantsForm = regexp.MustCompile(`\A(` + oneName + ` [1-9]-[1-9](,` + oneName + ` [1-9]-[1-9]){0,5})?\z`)
	digits    = regexp.MustCompile(`[1-9]-[1-9]`)
)

func newModel(root int) *model {
	return &model{root: root, houses: map[string]*modelHouse{}, public: modelShelf{}}
}

// check is an error and whether it applies; lists of them keep the order in
// which the document names the errors.
type check struct {
	applies bool
	e       api.Errno
}

func first(checks ...check) api.Errno {
	for _, c := range checks {
		if c.applies {
			return c.e
		}
	}
	return api.OK
}

func (m *model) role(house string, id int) int {
	if house == "" && id == m.root {
		return api.Root
	}
	if m.houses[house] == nil {
		return 0
	}
	token, there := m.houses[house].tokens[id]
	if !there || token.revoked || m.clock >= token.until {
		return 0
	}
	return token.role
}

func (m *model) answer(c call) answer {
	role := m.role(c.house, c.id)
	switch c.kind {
	case callTick:
		return answer{e: m.tick(c.a)}
	case callClock:
		return answer{n: m.clock}
	case callMay:
		return answer{n: role, e: first(check{role == 0, api.ErrToken})}
	case callFound:
		return answer{e: m.found(role, c.text)}
	case callMint:
		return answer{e: m.mint(role, c)}
	case callRevoke:
		return answer{e: m.revoke(role, c)}
	case callFeed:
		return answer{e: m.feed(c)}
	case callPublish:
		return answer{e: m.publish(role, c)}
	case callYank:
		return answer{e: m.yank(role, c)}
	case callGrant:
		return answer{e: m.grant(role, c)}
	}
	return m.show(role, c)
}

func (m *model) tick(n int) api.Errno {
	if n < 0 {
		return api.ErrArg
	}
	const max = 1099511627776
	if n > max || m.clock+n > max {
		m.clock = max
	} else {
		m.clock += n
	}
	return api.OK
}

func (m *model) found(role int, name string) api.Errno {
	e := first(check{role == 0, api.ErrToken}, check{role != api.Root, api.ErrRole}, check{!wordForm.MatchString(name), api.ErrName}, check{m.houses[name] != nil, api.ErrTaken}, check{len(m.houses) == 6, api.ErrRoom})
	if e == api.OK {
		m.houses[name] = &modelHouse{tokens: map[int]modelToken{}, shelf: modelShelf{}, granted: map[string]bool{}}
	}
	return e
}

// ruled gives the tokens of a house, and the errors of P7 and P8 that come first.
func (m *model) ruled(role int, c call) (map[int]modelToken, api.Errno) {
	ruler := role == api.Root || role == api.Admin && c.house == c.text
	h := m.houses[c.text]
	e := first(check{role == 0, api.ErrToken}, check{!ruler, api.ErrRole}, check{h == nil, api.ErrMissing})
	if e != api.OK {
		return nil, e
	}
	return h.tokens, api.OK
}

func (m *model) mint(role int, c call) api.Errno {
	tokens, e := m.ruled(role, c)
	_, taken := tokens[c.b]
	e = first(check{e != api.OK, e}, check{c.a < 1 || c.a > 3 || c.b < 1 || c.c < 1, api.ErrArg}, check{taken, api.ErrTaken}, check{len(tokens) == 8, api.ErrRoom})
	if e == api.OK {
		tokens[c.b] = modelToken{role: c.a, until: c.c}
	}
	return e
}

func (m *model) revoke(role int, c call) api.Errno {
	tokens, e := m.ruled(role, c)
	token, minted := tokens[c.a]
	e = first(check{e != api.OK, e}, check{!minted || token.revoked, api.ErrMissing})
	if e == api.OK {
		token.revoked = true
		tokens[c.a] = token
	}
	return e
}

func isWants(text string) bool {
	for _, d := range digits.FindAllString(text, -1) {
		if d[0] > d[2] {
			return false
		}
	}
	return wantsForm.MatchString(text)
}

// laid tells the errors that Feed and Publish have last, and lays the version.
func (s modelShelf) laid(c call, room int) api.Errno {
	key := fmt.Sprint(c.text, "@", c.a)
	_, taken := s[key]
	e := first(check{c.a < 1 || c.a > 9, api.ErrArg}, check{!isWants(c.more), api.ErrDeps}, check{taken, api.ErrTaken}, check{len(s) == room, api.ErrRoom})
	if e == api.OK {
		s[key] = false
	}
	return e
}

// told tells the versions of a name; none, if it has none.
func (s modelShelf) told(name string) string {
	versions := []string{}
	for key, yanked := range s {
		if version, mine := strings.CutPrefix(key, name+"@"); mine {
			versions = append(versions, version+map[bool]string{true: "*"}[yanked])
		}
	}
	sort.Strings(versions)
	return strings.Join(versions, ",")
}

func (m *model) feed(c call) api.Errno {
	if !nameForm.MatchString(c.text) {
		return api.ErrName
	}
	return m.public.laid(c, 24)
}

func (m *model) publish(role int, c call) api.Errno {
	e := first(check{role == 0, api.ErrToken}, check{role == api.Reader || role == api.Root, api.ErrRole}, check{!wordForm.MatchString(c.text), api.ErrName})
	if e != api.OK {
		return e
	}
	return m.houses[c.house].shelf.laid(c, 12)
}

func (m *model) yank(role int, c call) api.Errno {
	e := first(check{role == 0, api.ErrToken}, check{role == api.Reader || role == api.Root, api.ErrRole}, check{!wordForm.MatchString(c.text), api.ErrName})
	if e != api.OK {
		return e
	}
	key := fmt.Sprint(c.text, "@", c.a)
	if _, there := m.houses[c.house].shelf[key]; !there {
		return api.ErrMissing
	}
	m.houses[c.house].shelf[key] = !c.back
	return api.OK
}

func (m *model) grant(role int, c call) api.Errno {
	e := first(check{role == 0, api.ErrToken}, check{role != api.Admin, api.ErrRole}, check{!wordForm.MatchString(c.text) || !wordForm.MatchString(c.more), api.ErrName})
	if e != api.OK {
		return e
	}
	h, key := m.houses[c.house], c.text+" "+c.more
	e = first(check{h.shelf.told(c.text) == "", api.ErrMissing}, check{h.granted[key], api.ErrTaken}, check{len(h.granted) == 6, api.ErrRoom})
	if e == api.OK {
		h.granted[key] = true
	}
	return e
}

func (m *model) show(role int, c call) answer {
	if role == 0 {
		return answer{e: api.ErrToken}
	}
	if !nameForm.MatchString(c.text) {
		return answer{e: api.ErrName}
	}
	whose, versions := "public", m.public.told(c.text)
	house, pack, scoped := strings.Cut(c.text, "/")
	if h := m.houses[house]; scoped && h != nil {
		whose, versions = house, h.shelf.told(pack)
		if c.house != house && !h.granted[pack+" "+c.house] {
			versions = ""
		}
	}
	if versions == "" {
		return answer{e: api.ErrMissing}
	}
	return answer{text: whose + ":" + versions}
}
