package depot_test

import (
	"fmt"
	"maps"
	"regexp"
	"slices"
	"sort"
	"strings"

	"depot/api"
)

// model is a second telling of P3 to P15, straight from the document and with
// other means than the program's, for the walks of walk_test.go.
type model struct {
	root   int
	clock  int
	houses map[string]*modelHouse
	public modelShelf
}

type modelHouse struct {
	tokens  map[int]modelToken
	shelf   modelShelf
	granted map[string]bool // a package, a blank and a house
	log     string
}

type modelToken struct {
	role, until int
	revoked     bool
}

// modelShelf has versions: its keys are a label, @ and a number.
type modelShelf map[string]modelVersion

type modelVersion struct {
	wants  string
	yanked bool
}

const oneName = `[a-z]{1,4}(/[a-z]{1,4})?`

var (
	wordForm  = regexp.MustCompile(`\A[a-z]{1,4}\z`)
	nameForm  = regexp.MustCompile(`\A` + oneName + `\z`)
	wantsForm = regexp.MustCompile(`\A(` + oneName + ` [1-9]-[1-9](,` + oneName + ` [1-9]-[1-9]){0,5})?\z`)
	digits    = regexp.MustCompile(`[1-9]-[1-9]`)
)

func newModel(root int) *model {
	return &model{root: root, houses: map[string]*modelHouse{}, public: modelShelf{}}
}

// check is an error and whether it applies; lists of them keep the order in
// which the document names the errors.
type check struct {
	applies bool
	e       api.Errno
}

func first(checks ...check) api.Errno {
	for _, c := range checks {
		if c.applies {
			return c.e
		}
	}
	return api.OK
}

func (m *model) role(house string, id int) int {
	if house == "" && id == m.root {
		return api.Root
	}
	if m.houses[house] == nil {
		return 0
	}
	token, there := m.houses[house].tokens[id]
	if !there || token.revoked || m.clock >= token.until {
		return 0
	}
	return token.role
}

// answer answers a call and, if that was done, lays its line behind a log.
func (m *model) answer(c call) answer {
	got := m.answered(c)
	if got.e == api.OK {
		m.logged(c)
	}
	return got
}

func (m *model) logged(c call) {
	where, line := c.house, ""
	switch c.kind {
	case callMint:
		where, line = c.text, fmt.Sprintf("mint %d %d %d", c.b, c.a, c.c)
	case callRevoke:
		where, line = c.text, fmt.Sprintf("revoke %d", c.a)
	case callPublish:
		line = fmt.Sprintf("publish %s %d", c.text, c.a)
	case callYank:
		line = fmt.Sprintf("%s %s %d", map[bool]string{false: "yank", true: "back"}[c.back], c.text, c.a)
	case callGrant:
		line = fmt.Sprintf("grant %s %s", c.text, c.more)
	default:
		return
	}
	m.houses[where].log += fmt.Sprintf("%d:%s;", c.id, line)
}

func (m *model) answered(c call) answer {
	role := m.role(c.house, c.id)
	switch c.kind {
	case callTick:
		return answer{e: m.tick(c.a)}
	case callClock:
		return answer{n: m.clock}
	case callMay:
		return answer{n: role, e: first(check{role == 0, api.ErrToken})}
	case callFound:
		return answer{e: m.found(role, c.text)}
	case callMint:
		return answer{e: m.mint(role, c)}
	case callRevoke:
		return answer{e: m.revoke(role, c)}
	case callFeed:
		return answer{e: m.feed(c)}
	case callPublish:
		return answer{e: m.publish(role, c)}
	case callYank:
		return answer{e: m.yank(role, c)}
	case callGrant:
		return answer{e: m.grant(role, c)}
	case callResolve:
		return m.resolve(role, c)
	case callLog, callHead:
		return m.read(role, c)
	}
	return m.show(role, c)
}

func (m *model) tick(n int) api.Errno {
	if n < 0 {
		return api.ErrArg
	}
	const max = 1099511627776
	if n > max || m.clock+n > max {
		m.clock = max
	} else {
		m.clock += n
	}
	return api.OK
}

func (m *model) found(role int, name string) api.Errno {
	e := first(check{role == 0, api.ErrToken}, check{role != api.Root, api.ErrRole}, check{!wordForm.MatchString(name), api.ErrName}, check{m.houses[name] != nil, api.ErrTaken}, check{len(m.houses) == 6, api.ErrRoom})
	if e == api.OK {
		m.houses[name] = &modelHouse{tokens: map[int]modelToken{}, shelf: modelShelf{}, granted: map[string]bool{}}
	}
	return e
}

// ruled gives the tokens of a house, and the errors of P7 and P8 that come first.
func (m *model) ruled(role int, c call) (map[int]modelToken, api.Errno) {
	ruler := role == api.Root || role == api.Admin && c.house == c.text
	h := m.houses[c.text]
	e := first(check{role == 0, api.ErrToken}, check{!ruler, api.ErrRole}, check{h == nil, api.ErrMissing})
	if e != api.OK {
		return nil, e
	}
	return h.tokens, api.OK
}

func (m *model) mint(role int, c call) api.Errno {
	tokens, e := m.ruled(role, c)
	_, taken := tokens[c.b]
	e = first(check{e != api.OK, e}, check{c.a < 1 || c.a > 3 || c.b < 1 || c.c < 1, api.ErrArg}, check{taken, api.ErrTaken}, check{len(tokens) == 8, api.ErrRoom})
	if e == api.OK {
		tokens[c.b] = modelToken{role: c.a, until: c.c}
	}
	return e
}

func (m *model) revoke(role int, c call) api.Errno {
	tokens, e := m.ruled(role, c)
	token, minted := tokens[c.a]
	e = first(check{e != api.OK, e}, check{!minted || token.revoked, api.ErrMissing})
	if e == api.OK {
		token.revoked = true
		tokens[c.a] = token
	}
	return e
}

func isWants(text string) bool {
	for _, d := range digits.FindAllString(text, -1) {
		if d[0] > d[2] {
			return false
		}
	}
	return wantsForm.MatchString(text)
}

// laid tells the errors that Feed and Publish have last, and lays the version.
func (s modelShelf) laid(c call, room int) api.Errno {
	key := fmt.Sprint(c.text, "@", c.a)
	_, taken := s[key]
	e := first(check{c.a < 1 || c.a > 9, api.ErrArg}, check{!isWants(c.more), api.ErrDeps}, check{taken, api.ErrTaken}, check{len(s) == room, api.ErrRoom})
	if e == api.OK {
		s[key] = modelVersion{wants: c.more}
	}
	return e
}

// told tells the versions of a name; none, if it has none.
func (s modelShelf) told(name string) string {
	versions := []string{}
	for key, v := range s {
		if version, mine := strings.CutPrefix(key, name+"@"); mine {
			versions = append(versions, version+map[bool]string{true: "*"}[v.yanked])
		}
	}
	sort.Strings(versions)
	return strings.Join(versions, ",")
}

func (m *model) feed(c call) api.Errno {
	if !nameForm.MatchString(c.text) {
		return api.ErrName
	}
	return m.public.laid(c, 24)
}

func (m *model) publish(role int, c call) api.Errno {
	e := first(check{role == 0, api.ErrToken}, check{role == api.Reader || role == api.Root, api.ErrRole}, check{!wordForm.MatchString(c.text), api.ErrName})
	if e != api.OK {
		return e
	}
	return m.houses[c.house].shelf.laid(c, 12)
}

func (m *model) yank(role int, c call) api.Errno {
	e := first(check{role == 0, api.ErrToken}, check{role == api.Reader || role == api.Root, api.ErrRole}, check{!wordForm.MatchString(c.text), api.ErrName})
	if e != api.OK {
		return e
	}
	key := fmt.Sprint(c.text, "@", c.a)
	version, there := m.houses[c.house].shelf[key]
	if !there {
		return api.ErrMissing
	}
	version.yanked = !c.back
	m.houses[c.house].shelf[key] = version
	return api.OK
}

func (m *model) grant(role int, c call) api.Errno {
	e := first(check{role == 0, api.ErrToken}, check{role != api.Admin, api.ErrRole}, check{!wordForm.MatchString(c.text) || !wordForm.MatchString(c.more), api.ErrName})
	if e != api.OK {
		return e
	}
	h, key := m.houses[c.house], c.text+" "+c.more
	e = first(check{h.shelf.told(c.text) == "", api.ErrMissing}, check{h.granted[key], api.ErrTaken}, check{len(h.granted) == 6, api.ErrRoom})
	if e == api.OK {
		h.granted[key] = true
	}
	return e
}

func (m *model) show(role int, c call) answer {
	if role == 0 {
		return answer{e: api.ErrToken}
	}
	if !nameForm.MatchString(c.text) {
		return answer{e: api.ErrName}
	}
	shelf, label, whose := m.sight(c.house, c.text)
	if versions := shelf.told(label); versions != "" {
		return answer{text: whose + ":" + versions}
	}
	return answer{e: api.ErrMissing}
}

func (m *model) read(role int, c call) answer {
	e := first(check{role == 0, api.ErrToken}, check{role != api.Admin, api.ErrRole})
	if e != api.OK {
		return answer{e: e}
	}
	log := m.houses[c.house].log
	if c.kind == callLog {
		return answer{text: log}
	}
	return answer{n: sumOf(log)}
}

// sumOf counts a text's sum, byte by byte; a uint32 is modulo 2^32 by itself.
func sumOf(text string) int {
	sum := uint32(2166136261)
	for _, b := range []byte(text) {
		sum = (sum ^ uint32(b)) * 16777619
	}
	return int(sum)
}

// sight gives the shelf and the label where holders of the house see the
// versions of a name (of what they may not see, no shelf), and whose it is.
func (m *model) sight(house, name string) (modelShelf, string, string) {
	owner, pack, scoped := strings.Cut(name, "/")
	h := m.houses[owner]
	if !scoped || h == nil {
		return m.public, name, "public"
	}
	if house != owner && !h.granted[pack+" "+house] {
		return nil, pack, owner
	}
	return h.shelf, pack, owner
}

type modelWant struct {
	name     string
	from, to int
}

func (w modelWant) has(version int) bool { return w.from <= version && version <= w.to }

// wantsOf gives the wants of a text that has some, or is empty.
func wantsOf(text string) []modelWant {
	var list []modelWant
	for _, one := range strings.FieldsFunc(text, func(r rune) bool { return r == ',' }) {
		name, digits, _ := strings.Cut(one, " ")
		list = append(list, modelWant{name, int(digits[0] - '0'), int(digits[2] - '0')})
	}
	return list
}

// modelTry is what a Resolve does not change, and how many steps were made.
type modelTry struct {
	m      *model
	house  string
	asked  []modelWant
	budget int
	steps  int
}

func (m *model) resolve(role int, c call) answer {
	e := first(check{role == 0, api.ErrToken}, check{!isWants(c.more), api.ErrDeps}, check{c.a < 0 || c.a > 1000000, api.ErrArg})
	if e != api.OK {
		return answer{e: e}
	}
	try := modelTry{m: m, house: c.house, asked: wantsOf(c.more), budget: c.a}
	chosen, e := try.choose(try.asked, map[string]int{})
	text := ""
	for _, name := range slices.Sorted(maps.Keys(chosen)) {
		_, _, whose := m.sight(c.house, name)
		text += fmt.Sprintf("%s@%d#%s;", name, chosen[name], whose)
	}
	return answer{text: text, n: try.steps, e: e}
}

// choose goes through what is left of the list. Each step hands on a list and
// choices of its own, so that there is nothing to take back.
func (try *modelTry) choose(list []modelWant, chosen map[string]int) (map[string]int, api.Errno) {
	if len(list) == 0 {
		return chosen, api.OK
	}
	want, rest := list[0], list[1:]
	if version := chosen[want.name]; version != 0 {
		if want.has(version) {
			return try.choose(rest, chosen)
		}
		return nil, api.ErrNone
	}
	for version := want.to; version >= want.from; version-- {
		more, is := try.candidate(want.name, version)
		if !is {
			continue
		}
		if try.steps == try.budget {
			return nil, api.ErrBudget
		}
		try.steps++
		with := maps.Clone(chosen)
		with[want.name] = version
		if all, e := try.choose(slices.Concat(rest, more), with); e != api.ErrNone {
			return all, e
		}
	}
	return nil, api.ErrNone
}

// candidate tells whether a version may be chosen, and what it wants.
func (try *modelTry) candidate(name string, version int) ([]modelWant, bool) {
	shelf, label, _ := try.m.sight(try.house, name)
	v, there := shelf[fmt.Sprint(label, "@", version)]
	if !there || v.yanked && !slices.Contains(try.asked, modelWant{name, version, version}) {
		return nil, false
	}
	return wantsOf(v.wants), true
}
