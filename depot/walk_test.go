package depot_test

import (
	"fmt"
	"math/rand"
	"reflect"
	"strings"
	"testing"

	"depot/api"
	"depot/depot"
)

const (
	callTick = iota
	callClock
	callMay
	callFound
	callMint
	callRevoke
	callFeed
	callPublish
	callYank
	callGrant
	callShow
	callResolve
	callLog
	callHead
	callKinds
)

// call is one call: text is name, of or pack, and more is wants or to; a, b, c
// are the numbers behind these.
type call struct {
	kind       int
	house      string
	id         int
	text, more string
	a, b, c    int
	back       bool
}

type answer struct {
	text string
	n    int
	e    api.Errno
}

func do(d *depot.Depot, c call) answer {
	switch c.kind {
	case callTick:
		return answer{e: d.Tick(c.a)}
	case callClock:
		return answer{n: d.Clock()}
	case callMay:
		n, e := d.May(c.house, c.id)
		return answer{n: n, e: e}
	case callFound:
		return answer{e: d.Found(c.house, c.id, c.text)}
	case callMint:
		return answer{e: d.Mint(c.house, c.id, c.text, c.a, c.b, c.c)}
	case callRevoke:
		return answer{e: d.Revoke(c.house, c.id, c.text, c.a)}
	case callFeed:
		return answer{e: d.Feed(c.text, c.a, c.more)}
	case callPublish:
		return answer{e: d.Publish(c.house, c.id, c.text, c.a, c.more)}
	case callYank:
		return answer{e: d.Yank(c.house, c.id, c.text, c.a, c.back)}
	case callGrant:
		return answer{e: d.Grant(c.house, c.id, c.text, c.more)}
	case callResolve:
		text, n, e := d.Resolve(c.house, c.id, c.more, c.a)
		return answer{text: text, n: n, e: e}
	case callLog:
		text, e := d.Log(c.house, c.id)
		return answer{text: text, e: e}
	case callHead:
		n, e := d.Head(c.house, c.id)
		return answer{n: n, e: e}
	}
	text, e := d.Show(c.house, c.id, c.text)
	return answer{text: text, e: e}
}

func pick[T any](r *rand.Rand, choices ...T) T { return choices[r.Intn(len(choices))] }

func pickHouse(r *rand.Rand) string {
	if r.Intn(12) == 0 {
		return pick(r, oddTexts...)
	}
	return pick(r, "acme", "acme", "acme", "beta", "beta", "a", "b", "c", "zzzz", "q")
}

func pickPack(r *rand.Rand) string {
	if r.Intn(12) == 0 {
		return pick(r, noWords...)
	}
	return pick(r, "x", "x", "x", "y", "abcd")
}

func pickName(r *rand.Rand) string {
	switch r.Intn(10) {
	case 0:
		return pick(r, noNames...)
	case 1, 2, 3:
		return pick(r, "x", "y", "abcd", "acme", "b")
	}
	return pickHouse(r) + "/" + pickPack(r)
}

func pickWants(r *rand.Rand) string {
	switch r.Intn(8) {
	case 0:
		return pick(r, noWants...)
	case 1, 2:
		return pick(r, someWants...)
	}
	var list []string
	for range r.Intn(4) {
		from, to := 1+r.Intn(9), 1+r.Intn(9)
		if r.Intn(3) == 0 {
			to = from
		}
		name := pick(r, "x", "y", "abcd", "acme/x", "acme/y", "acme/abcd", "beta/x", "a/x")
		list = append(list, fmt.Sprintf("%s %d-%d", name, min(from, to), max(from, to)))
	}
	return strings.Join(list, ",")
}

func pickBudget(r *rand.Rand) int {
	if r.Intn(8) == 0 {
		return pick(r, least, -1, 0, api.MaxBudget, api.MaxBudget+1, most)
	}
	return pick(r, 1, 2, 3, 4, 5, 10, 100)
}

func pickNumber(r *rand.Rand) int {
	if r.Intn(12) == 0 {
		return pick(r, least, least+1, -1, 0, most-1, most)
	}
	return 1 + r.Intn(10)
}

// pickHolder picks a house and a number that holds a role there, if it hits on one.
func pickHolder(r *rand.Rand, m *model) (string, int) {
	for range 100 {
		house, id := pick(r, "acme", "beta", "a"), pickNumber(r)
		if m.role(house, id) != 0 {
			return house, id
		}
	}
	return "", 7
}

func pickCall(r *rand.Rand, m *model) call {
	c := call{kind: r.Intn(callKinds), house: pickHouse(r), id: pickNumber(r), text: pickHouse(r), a: pickNumber(r), back: r.Intn(2) == 0}
	// Without these, nearly all calls would be answered ErrToken or ErrRole.
	switch r.Intn(5) {
	case 0:
		c.house, c.id = "", 7
	case 1:
		c.text = c.house
	case 2, 3:
		c.house, c.id = pickHolder(r, m)
		c.text = c.house
	}
	switch c.kind {
	case callTick:
		c.a = pick(r, 0, 1, 1, 2, -1, least)
		if r.Intn(200) == 0 {
			c.a = pick(r, most, api.MaxClock, api.MaxClock-1)
		}
	case callMint:
		c.b, c.a = c.a, pick(r, 1, 1, 2, 2, 3, 3, 3, 3, 3, 3, 0, 4, least, most)
		c.c = pick(r, 1, 5, 20, 100, 100, 100, api.MaxClock, api.MaxClock+1, most, 0, least)
	case callFeed:
		c.text, c.more = pickName(r), pickWants(r)
	case callPublish:
		c.text, c.more = pickPack(r), pickWants(r)
	case callYank:
		c.text = pickPack(r)
	case callGrant:
		c.text, c.more = pickPack(r), pickHouse(r)
	case callShow:
		c.text = pickName(r)
	case callResolve:
		c.more, c.a = pickWants(r), pickBudget(r)
	}
	return c
}

// asks are the calls that change nothing, whatever they answer.
var asks = [callKinds]bool{callClock: true, callMay: true, callShow: true, callResolve: true, callLog: true, callHead: true}

// loggedKinds are the calls that lay a line behind a log, if they are answered OK.
var loggedKinds = []int{callMint, callRevoke, callPublish, callYank, callGrant}

// Long walks of calls, right and wrong ones. Of two more depots, one gets all
// the calls, for it must answer alike (P2), and one only those that were
// answered OK and do not but ask, for the others must have changed nothing (P1).
func TestP1P2Walks(t *testing.T) {
	var seen [callKinds][11]int
	shown, tried, told := map[string]int{}, map[string]int{}, map[string]int{}
	for seed := int64(0); seed < 100; seed++ {
		r := rand.New(rand.NewSource(seed))
		m := newModel(7)
		d, again, good := opened(t, 7), opened(t, 7), opened(t, 7)
		for step := 0; step < 1500; step++ {
			c := pickCall(r, m)
			want := m.answer(c)
			got := do(d, c)
			if got != want {
				t.Fatalf("seed %d, step %d: %+v = %v, want %v", seed, step, c, got, want)
			}
			if a := do(again, c); a != got {
				t.Fatalf("seed %d, step %d: %+v = %v, on another depot %v", seed, step, c, got, a)
			}
			if got.e == api.OK && !asks[c.kind] {
				do(good, c)
			}
			if !reflect.DeepEqual(d, good) {
				t.Fatalf("seed %d, step %d: %+v = %v has changed the depot", seed, step, c, got)
			}
			seen[c.kind][got.e]++
			switch {
			case c.kind == callShow && got.text != "":
				shown[sightOf(c, got.text)]++
			case c.kind == callResolve:
				tried[fitOf(got)]++
			case c.kind == callLog:
				for _, deed := range deeds {
					told[deed] += strings.Count(got.text, ":"+deed+" ")
				}
			}
		}
	}
	checkSeen(t, seen)
	for _, sight := range []string{"public", "public of a scoped name", "own", "own yanked", "granted", "granted yanked"} {
		if shown[sight] == 0 {
			t.Errorf("nobody was shown what is %s", sight)
		}
	}
	for _, fit := range []string{"one", "several", "one after a failed try", "several after a failed try", "none at once", "none after steps"} {
		if tried[fit] == 0 {
			t.Errorf("nobody was told %s to go together", fit)
		}
	}
	for _, deed := range deeds {
		if told[deed] == 0 {
			t.Errorf("no log told of a %s", deed)
		}
	}
}

// deeds are what lines of logs tell of.
var deeds = []string{"mint", "revoke", "publish", "yank", "back", "grant"}

// fitOf tells what a Resolve came to.
func fitOf(got answer) string {
	picks := strings.Count(got.text, ";")
	fit := "nothing"
	switch {
	case got.e == api.ErrNone && got.n == 0:
		return "none at once"
	case got.e == api.ErrNone:
		return "none after steps"
	case picks == 1:
		fit = "one"
	case picks > 1:
		fit = "several"
	}
	if got.n > picks {
		fit += " after a failed try"
	}
	return fit
}

// sightOf tells why something was shown.
func sightOf(c call, text string) string {
	whose, versions, _ := strings.Cut(text, ":")
	sight := "granted"
	switch {
	case whose == "public" && strings.Contains(c.text, "/"):
		sight = "public of a scoped name"
	case whose == "public":
		sight = "public"
	case whose == c.house:
		sight = "own"
	}
	if strings.Contains(versions, "*") {
		sight += " yanked"
	}
	return sight
}

// checkSeen sees to it that the walks met every answer that a call can give.
func checkSeen(t *testing.T, seen [callKinds][11]int) {
	t.Helper()
	answers := [callKinds][]api.Errno{
		callTick:    {api.OK, api.ErrArg},
		callClock:   {api.OK},
		callMay:     {api.OK, api.ErrToken},
		callFound:   {api.OK, api.ErrToken, api.ErrRole, api.ErrName, api.ErrTaken, api.ErrRoom},
		callMint:    {api.OK, api.ErrToken, api.ErrRole, api.ErrMissing, api.ErrArg, api.ErrTaken, api.ErrRoom},
		callRevoke:  {api.OK, api.ErrToken, api.ErrRole, api.ErrMissing},
		callFeed:    {api.OK, api.ErrName, api.ErrArg, api.ErrDeps, api.ErrTaken, api.ErrRoom},
		callPublish: {api.OK, api.ErrToken, api.ErrRole, api.ErrName, api.ErrArg, api.ErrDeps, api.ErrTaken, api.ErrRoom},
		callYank:    {api.OK, api.ErrToken, api.ErrRole, api.ErrName, api.ErrMissing},
		callGrant:   {api.OK, api.ErrToken, api.ErrRole, api.ErrName, api.ErrMissing, api.ErrTaken, api.ErrRoom},
		callShow:    {api.OK, api.ErrToken, api.ErrName, api.ErrMissing},
		callResolve: {api.OK, api.ErrToken, api.ErrDeps, api.ErrArg, api.ErrNone, api.ErrBudget},
		callLog:     {api.OK, api.ErrToken, api.ErrRole},
		callHead:    {api.OK, api.ErrToken, api.ErrRole},
	}
	for kind, errnos := range answers {
		for _, e := range errnos {
			if seen[kind][e] == 0 {
				t.Errorf("no call of kind %d was answered %d", kind, e)
			}
		}
	}
}

// What is done on one depot is not to be seen on another.
func TestP2DepotsApart(t *testing.T) {
	one, other := furnished(t), furnished(t)
	tick(t, one, 60, api.OK)
	revoke(t, one, "acme", 3, "acme", 1, api.OK)
	mint(t, one, "acme", 3, "acme", api.Writer, 9, 100, api.OK)
	found(t, one, "", 7, "c", api.OK)
	feed(t, one, "y", 1, "", api.OK)
	publish(t, one, "acme", 2, "x", 1, "", api.OK)
	grant(t, one, "acme", 3, "x", "beta", api.OK)
	fits(t, one, "acme", 2, "acme/x 1-1,y 1-1", "acme/x@1#acme;y@1#public;", 2)
	logged(t, one, "acme", 3, furnishing+"3:revoke 1;3:mint 9 2 100;2:publish x 1;3:grant x beta;")
	logged(t, other, "acme", 3, furnishing)
	clock(t, other, 0)
	show(t, other, "acme", 2, "y", "")
	show(t, other, "acme", 2, "acme/x", "")
	noFit(t, other, "acme", 2, "acme/x 1-1,y 1-1", 0)
	publish(t, other, "acme", 2, "x", 1, "", api.OK)
	show(t, other, "beta", 2, "acme/x", "")
	may(t, other, "acme", 1, api.Reader)
	may(t, other, "acme", 9, 0)
	found(t, other, "", 7, "c", api.OK)
	third := opened(t, 8)
	may(t, third, "", 7, 0)
	may(t, one, "", 8, 0)
	may(t, third, "acme", 3, 0)
}

// Asking changes nothing, and is answered alike each time.
func TestP2AskedAgain(t *testing.T) {
	d := furnished(t)
	for i := 0; i < 3; i++ {
		clock(t, d, 0)
		may(t, d, "acme", 1, api.Reader)
		may(t, d, "acme", 9, 0)
		show(t, d, "acme", 1, "acme/x", "")
		show(t, d, "acme", 1, "y", "")
		noFit(t, d, "acme", 1, "acme/x 1-9", 0)
		logged(t, d, "acme", 3, furnishing)
		notLogged(t, d, "acme", 1, api.ErrRole)
	}
	if !reflect.DeepEqual(d, furnished(t)) {
		t.Error("asking has changed the depot")
	}
}
