package depot_test

import (
	"fmt"
	"math/rand"
	"slices"
	"strings"
	"testing"

	"depot/api"
	"depot/depot"
)

// Names of the worlds. There is no house late.
var worldNames = []string{"x", "y", "z", "late/x", "acme/x", "acme/y", "beta/x", "beta/y"}

// world is a depot and its model, of few names with few versions that want
// each other a lot. A query is what is asked of it.
type world struct {
	d *depot.Depot
	m *model
}

type query struct {
	house string
	id    int
	wants string
}

func (w world) do(t *testing.T, c call) answer {
	t.Helper()
	got, want := do(w.d, c), w.m.answer(c)
	if got != want {
		t.Fatalf("%+v = %v, want %v", c, got, want)
	}
	return got
}

func (w world) resolve(t *testing.T, q query, budget int) answer {
	t.Helper()
	return w.do(t, call{kind: callResolve, house: q.house, id: q.id, more: q.wants, a: budget})
}

func newWorld(t *testing.T, r *rand.Rand) world {
	t.Helper()
	w := world{opened(t, 7), newModel(7)}
	for _, house := range []string{"acme", "beta"} {
		w.do(t, call{kind: callFound, id: 7, text: house})
		w.do(t, call{kind: callMint, id: 7, text: house, a: api.Admin, b: 1, c: 100})
	}
	for range 10 + r.Intn(30) {
		house, pack, scoped := strings.Cut(pick(r, worldNames...), "/")
		c := call{kind: callPublish, house: house, id: 1, text: pack, more: worldWants(r, 3), a: 1 + r.Intn(3)}
		if !scoped || house == "late" {
			c.kind, c.text = callFeed, strings.Trim(house+"/"+pack, "/")
		}
		w.do(t, c)
	}
	for range r.Intn(5) {
		w.do(t, call{kind: callYank, house: pick(r, "acme", "beta"), id: 1, text: pick(r, "x", "y"), a: 1 + r.Intn(3)})
		w.do(t, call{kind: callGrant, house: pick(r, "acme", "beta"), id: 1, text: pick(r, "x", "y"), more: pick(r, "acme", "beta")})
	}
	return w
}

// worldWants gives fewer than many wants.
func worldWants(r *rand.Rand, many int) string {
	var list []string
	for range r.Intn(many) {
		from := 1 + r.Intn(3)
		list = append(list, fmt.Sprintf("%s %d-%d", pick(r, worldNames...), from, pick(r, from, 3, 9)))
	}
	return strings.Join(list, ",")
}

func pickQuery(r *rand.Rand) query {
	q := query{house: pick(r, "acme", "acme", "beta", ""), id: 1, wants: worldWants(r, 5)}
	if q.house == "" {
		q.id = 7
	}
	return q
}

// picksOf reads what Resolve tells.
func picksOf(t *testing.T, text string) map[string]int {
	t.Helper()
	picks := map[string]int{}
	for text != "" {
		var one string
		one, text, _ = strings.Cut(text, ";")
		name, rest, _ := strings.Cut(one, "@")
		if len(rest) < 3 || rest[1] != '#' {
			t.Fatalf("%q is told in %q", one, text)
		}
		picks[name] = int(rest[0] - '0')
	}
	return picks
}

// goesTogether tells whether picks have all that was asked and all that they
// want, and are all candidates.
func (w world) goesTogether(q query, picks map[string]int) bool {
	try := modelTry{m: w.m, house: q.house, asked: wantsOf(q.wants)}
	all := try.asked
	for name, version := range picks {
		more, is := try.candidate(name, version)
		if !is {
			return false
		}
		all = slices.Concat(all, more)
	}
	for _, want := range all {
		if !want.has(picks[want.name]) {
			return false
		}
	}
	return true
}

// needed counts the names that are reached from what was asked.
func (w world) needed(q query, picks map[string]int) int {
	try := modelTry{m: w.m, house: q.house, asked: wantsOf(q.wants)}
	reached := map[string]bool{}
	for list := try.asked; len(list) > 0; {
		name := list[0].name
		list = list[1:]
		if !reached[name] {
			reached[name] = true
			more, _ := try.candidate(name, picks[name])
			list = slices.Concat(list, more)
		}
	}
	return len(reached)
}

// someGoTogether tells whether anything goes together that adds versions of
// the names to the picks.
func (w world) someGoTogether(q query, names []string, picks map[string]int) bool {
	if len(names) == 0 {
		return w.goesTogether(q, picks)
	}
	name, rest := names[0], names[1:]
	try := modelTry{m: w.m, house: q.house, asked: wantsOf(q.wants)}
	for version := 1; version <= 9; version++ {
		if _, is := try.candidate(name, version); !is {
			continue
		}
		picks[name] = version
		if w.someGoTogether(q, rest, picks) {
			return true
		}
	}
	delete(picks, name)
	return w.someGoTogether(q, rest, picks)
}

// Whatever is asked is answered as the model answers it.
func TestP14Worlds(t *testing.T) {
	seen := map[string]int{}
	for seed := int64(0); seed < 1500; seed++ {
		r := rand.New(rand.NewSource(seed))
		w := newWorld(t, r)
		for range 20 {
			q := pickQuery(r)
			seen[fitOf(w.resolve(t, q, api.MaxBudget))]++
			w.resolve(t, q, r.Intn(8))
		}
	}
	for _, fit := range []string{"one", "several", "several after a failed try", "none after steps"} {
		if seen[fit] < 200 {
			t.Errorf("%d times was told %s to go together", seen[fit], fit)
		}
	}
}

// What is chosen has all that is wanted and nothing else, and if nothing is
// chosen, nothing could be.
func TestP16WhatIsChosen(t *testing.T) {
	for seed := int64(0); seed < 60; seed++ {
		r := rand.New(rand.NewSource(seed))
		w := newWorld(t, r)
		for range 10 {
			q := pickQuery(r)
			text, _, e := w.d.Resolve(q.house, q.id, q.wants, api.MaxBudget)
			switch e {
			case api.OK:
				picks := picksOf(t, text)
				if !w.goesTogether(q, picks) {
					t.Errorf("seed %d: %+v = %q, which does not go together", seed, q, text)
				}
				if n := w.needed(q, picks); n != len(picks) {
					t.Errorf("seed %d: %+v = %q, of which only %d are needed", seed, q, text, n)
				}
			case api.ErrNone:
				picks := map[string]int{}
				if w.someGoTogether(q, worldNames, picks) {
					t.Errorf("seed %d: %+v = ErrNone, but %v go together", seed, q, picks)
				}
			default:
				t.Errorf("seed %d: %+v = %d", seed, q, e)
			}
		}
	}
}

// Of what is chosen, Show tells the versions, and the same owner.
func TestP16ChosenIsSeen(t *testing.T) {
	for seed := int64(0); seed < 300; seed++ {
		r := rand.New(rand.NewSource(seed))
		w := newWorld(t, r)
		for range 10 {
			q := pickQuery(r)
			text, _, _ := w.d.Resolve(q.house, q.id, q.wants, api.MaxBudget)
			for name, version := range picksOf(t, text) {
				shown, e := w.d.Show(q.house, q.id, name)
				whose, versions, _ := strings.Cut(shown, ":")
				if e != api.OK || !strings.Contains(versions, fmt.Sprint(version)) || !strings.Contains(text, fmt.Sprintf("%s@%d#%s;", name, version, whose)) {
					t.Errorf("seed %d: %+v = %q, of %s is shown %q, %d", seed, q, text, name, shown, e)
				}
			}
		}
	}
}

// A budget of the steps told, or more, changes nothing; a lesser one is spent.
func TestP16Budgets(t *testing.T) {
	for seed := int64(0); seed < 300; seed++ {
		r := rand.New(rand.NewSource(seed))
		w := newWorld(t, r)
		for range 5 {
			q := pickQuery(r)
			text, steps, e := w.d.Resolve(q.house, q.id, q.wants, api.MaxBudget)
			resolveOf(t, w.d, q.house, q.id, q.wants, text, steps, e)
		}
	}
}
