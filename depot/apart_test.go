package depot_test

import (
	"math/rand"
	"slices"
	"testing"

	"depot/api"
	"depot/depot"
)

// sights is all that a holder is shown of some names, what goes together with
// them, and what the holder is told of the own token and the own house's log.
func sights(d *depot.Depot, house string, id int) []answer {
	var all []answer
	for _, kind := range []int{callMay, callLog, callHead} {
		all = append(all, do(d, call{kind: kind, house: house, id: id}))
	}
	for _, first := range []string{"", "acme/", "beta/", "late/"} {
		for _, pack := range []string{"x", "y", "abcd", "acme", "beta"} {
			name := first + pack
			text, e := d.Show(house, id, name)
			all = append(all, answer{text: text, e: e})
			for _, wants := range []string{name + " 1-9", name + " 4-4", name + " 1-5,x 1-9", "y 1-9," + name + " 2-9"} {
				text, steps, e := d.Resolve(house, id, wants, 1000)
				all = append(all, answer{text, steps, e})
			}
		}
	}
	return all
}

// sightsOf is the sights of a house's Reader, Writer and Admin.
func sightsOf(d *depot.Depot, house string) []answer {
	var all []answer
	for id := 1; id <= 3; id++ {
		all = append(all, sights(d, house, id)...)
	}
	return all
}

// seenAlike fails if two lists of sights differ.
func seenAlike(t *testing.T, what string, got, want []answer) {
	t.Helper()
	for i := range want {
		if got[i] != want[i] {
			t.Errorf("%s: sight %d is %v, was %v", what, i, got[i], want[i])
		}
	}
}

// What the public is fed of a house's names is shown to nobody, and chosen for
// nobody.
func TestP16FedOfHousesNames(t *testing.T) {
	d := furnished(t)
	publish(t, d, "acme", 2, "x", 1, "", api.OK)
	publish(t, d, "acme", 2, "y", 4, "acme/x 1-9", api.OK)
	fedWith(t, d, "y@1 acme/x 1-9", "y@2 acme/abcd 1-9", "y@3 beta/x 1-9", "x@9 acme/x 4-9")
	yank(t, d, "acme", 2, "y", 4, false, api.OK)
	grant(t, d, "acme", 3, "y", "beta", api.OK)
	feed(t, d, "x", 1, "", api.OK)
	acme, beta, root := sightsOf(d, "acme"), sightsOf(d, "beta"), sights(d, "", 7)
	for _, pack := range []string{"x", "y", "abcd", "acme", "beta"} {
		feed(t, d, "acme/"+pack, 1, "", api.OK)
		feed(t, d, "acme/"+pack, 9, "x 1-1", api.OK)
		feed(t, d, "beta/"+pack, 4, "", api.OK)
		seenAlike(t, "acme, fed "+pack, sightsOf(d, "acme"), acme)
		seenAlike(t, "beta, fed "+pack, sightsOf(d, "beta"), beta)
		seenAlike(t, "Root, fed "+pack, sights(d, "", 7), root)
	}
}

// What acme does changes nothing that beta is shown, that is chosen for it or
// that its log tells, as long as acme has granted beta nothing.
func TestP16OtherHouses(t *testing.T) {
	done := 0
	for seed := int64(0); seed < 200; seed++ {
		r := rand.New(rand.NewSource(seed))
		d := furnished(t)
		publish(t, d, "beta", 2, "x", 2, "", api.OK)
		fedWith(t, d, "x@3", "x@4 acme/x 1-9", "y@1 beta/x 1-9,acme/x 1-9", "y@2 acme/abcd 1-9")
		beta := sightsOf(d, "beta")
		for range 50 {
			c := call{kind: pick(r, loggedKinds...), house: "acme", id: 1 + r.Intn(3), back: r.Intn(2) == 0}
			switch c.kind {
			case callMint:
				c.text, c.a, c.b, c.c = "acme", 1+r.Intn(3), 1+r.Intn(9), 100
			case callRevoke:
				c.text, c.a = "acme", 4+r.Intn(6)
			case callGrant:
				c.text, c.more = pickPack(r), pick(r, "acme", "late", "c", "d")
			default:
				c.text, c.a, c.more = pickPack(r), 1+r.Intn(9), pick(r, "", "x 1-3", "beta/x 1-9")
			}
			if do(d, c).e == api.OK {
				done++
			}
		}
		seenAlike(t, "beta", sightsOf(d, "beta"), beta)
	}
	if done < 1000 {
		t.Errorf("acme did but %d things", done)
	}
}

// callBy picks a call that shows a token of a house, most often one that may
// make it. Token 9 is not revoked, so that there is an Admin to the end.
func callBy(r *rand.Rand, house string) call {
	c := pickCall(r, newModel(7))
	c.house, c.id = house, pick(r, 2, 3, 9, 9, 9, pickNumber(r))
	if c.kind == callMint || c.kind == callRevoke {
		c.text = pick(r, house, house, house, c.text)
	}
	if c.kind == callRevoke && c.a == 9 {
		c.a = 8
	}
	return c
}

// withOthers makes a depot as furnished does, with the house c besides. Of
// each house, token 9 is Admin for ever.
func withOthers(t *testing.T) *depot.Depot {
	t.Helper()
	d := furnished(t)
	found(t, d, "", 7, "c", api.OK)
	for _, house := range []string{"acme", "beta", "c"} {
		mint(t, d, "", 7, house, api.Admin, 9, most, api.OK)
	}
	return d
}

// Two depots get the same calls by beta, but on one of them the others, who
// grant beta nothing, are busy: beta cannot tell which one that is.
func TestP16OtherHousesWalks(t *testing.T) {
	var done, answered [callKinds]int
	for seed := int64(0); seed < 100; seed++ {
		r := rand.New(rand.NewSource(seed))
		busy, calm := withOthers(t), withOthers(t)
		for step := range 500 {
			other := callBy(r, pick(r, "acme", "c"))
			grantsBeta := other.kind == callGrant && other.more == "beta"
			if slices.Contains(loggedKinds, other.kind) && !grantsBeta && do(busy, other).e == api.OK {
				done[other.kind]++
			}
			own := callBy(r, "beta")
			got, want := do(busy, own), do(calm, own)
			if got != want {
				t.Fatalf("seed %d, step %d: %+v = %v, if the others are calm %v", seed, step, own, got, want)
			}
			if got.e == api.OK {
				answered[own.kind]++
			}
		}
		seenAlike(t, "beta", sightsOf(busy, "beta"), sightsOf(calm, "beta"))
	}
	for _, kind := range loggedKinds {
		if done[kind] < 100 {
			t.Errorf("the others made but %d calls of kind %d", done[kind], kind)
		}
	}
	for kind, n := range answered {
		if n < 100 && kind != callFound {
			t.Errorf("but %d calls of kind %d by beta were answered OK", n, kind)
		}
	}
}

// Whatever the public is fed of houses' names, nothing else goes together.
func TestP16FedWorlds(t *testing.T) {
	for seed := int64(0); seed < 200; seed++ {
		r := rand.New(rand.NewSource(seed))
		w := newWorld(t, r)
		var queries []query
		var before []answer
		for range 20 {
			q := pickQuery(r)
			queries = append(queries, q)
			before = append(before, w.resolve(t, q, api.MaxBudget))
		}
		for range 10 {
			feedAny := call{kind: callFeed, text: pick(r, worldNames[4:]...), more: worldWants(r, 3), a: 1 + r.Intn(9)}
			w.do(t, feedAny)
		}
		for i, q := range queries {
			if after := w.resolve(t, q, api.MaxBudget); after != before[i] {
				t.Errorf("seed %d: %+v = %v, was %v", seed, q, after, before[i])
			}
		}
	}
}
