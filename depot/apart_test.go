package depot_test

import (
	"math/rand"
	"testing"

	"depot/api"
	"depot/depot"
)

// sights is all that a holder is shown of some names, and what goes together
// with them.
func sights(d *depot.Depot, house string, id int) []answer {
	var all []answer
	for _, first := range []string{"", "acme/", "beta/", "late/"} {
		for _, pack := range []string{"x", "y", "abcd", "acme", "beta"} {
			name := first + pack
			text, e := d.Show(house, id, name)
			all = append(all, answer{text: text, e: e})
			for _, wants := range []string{name + " 1-9", name + " 4-4", name + " 1-5,x 1-9", "y 1-9," + name + " 2-9"} {
				text, steps, e := d.Resolve(house, id, wants, 1000)
				all = append(all, answer{text, steps, e})
			}
		}
	}
	return all
}

// seenAlike fails if two lists of sights differ.
func seenAlike(t *testing.T, what string, got, want []answer) {
	t.Helper()
	for i := range want {
		if got[i] != want[i] {
			t.Errorf("%s: sight %d is %v, was %v", what, i, got[i], want[i])
		}
	}
}

// What the public is fed of a house's names is shown to nobody, and chosen for
// nobody.
func TestP16FedOfHousesNames(t *testing.T) {
	d := furnished(t)
	publish(t, d, "acme", 2, "x", 1, "", api.OK)
	publish(t, d, "acme", 2, "y", 4, "acme/x 1-9", api.OK)
	fedWith(t, d, "y@1 acme/x 1-9", "y@2 acme/abcd 1-9", "y@3 beta/x 1-9", "x@9 acme/x 4-9")
	yank(t, d, "acme", 2, "y", 4, false, api.OK)
	grant(t, d, "acme", 3, "y", "beta", api.OK)
	feed(t, d, "x", 1, "", api.OK)
	acme, beta, root := sights(d, "acme", 1), sights(d, "beta", 1), sights(d, "", 7)
	for _, pack := range []string{"x", "y", "abcd", "acme", "beta"} {
		feed(t, d, "acme/"+pack, 1, "", api.OK)
		feed(t, d, "acme/"+pack, 9, "x 1-1", api.OK)
		feed(t, d, "beta/"+pack, 4, "", api.OK)
		seenAlike(t, "acme, fed "+pack, sights(d, "acme", 1), acme)
		seenAlike(t, "beta, fed "+pack, sights(d, "beta", 1), beta)
		seenAlike(t, "Root, fed "+pack, sights(d, "", 7), root)
	}
}

// What acme does changes nothing that beta is shown or that is chosen for it,
// as long as acme has granted beta nothing.
func TestP16OtherHouses(t *testing.T) {
	done := 0
	for seed := int64(0); seed < 200; seed++ {
		r := rand.New(rand.NewSource(seed))
		d := furnished(t)
		publish(t, d, "beta", 2, "x", 2, "", api.OK)
		fedWith(t, d, "x@3", "x@4 acme/x 1-9", "y@1 beta/x 1-9,acme/x 1-9", "y@2 acme/abcd 1-9")
		beta := sights(d, "beta", 1)
		for range 50 {
			c := call{kind: pick(r, callMint, callRevoke, callPublish, callYank, callGrant), house: "acme", id: 1 + r.Intn(3), back: r.Intn(2) == 0}
			switch c.kind {
			case callMint:
				c.text, c.a, c.b, c.c = "acme", 1+r.Intn(3), 1+r.Intn(9), 100
			case callRevoke:
				c.text, c.a = "acme", 4+r.Intn(6)
			case callGrant:
				c.text, c.more = pickPack(r), pick(r, "acme", "late", "c", "d")
			default:
				c.text, c.a, c.more = pickPack(r), 1+r.Intn(9), pick(r, "", "x 1-3", "beta/x 1-9")
			}
			if do(d, c).e == api.OK {
				done++
			}
		}
		seenAlike(t, "beta", sights(d, "beta", 1), beta)
	}
	if done < 1000 {
		t.Errorf("acme did but %d things", done)
	}
}

// Whatever the public is fed of houses' names, nothing else goes together.
func TestP16FedWorlds(t *testing.T) {
	for seed := int64(0); seed < 200; seed++ {
		r := rand.New(rand.NewSource(seed))
		w := newWorld(t, r)
		var queries []query
		var before []answer
		for range 20 {
			q := pickQuery(r)
			queries = append(queries, q)
			before = append(before, w.resolve(t, q, api.MaxBudget))
		}
		for range 10 {
			feedAny := call{kind: callFeed, text: pick(r, worldNames[4:]...), more: worldWants(r, 3), a: 1 + r.Intn(9)}
			w.do(t, feedAny)
		}
		for i, q := range queries {
			if after := w.resolve(t, q, api.MaxBudget); after != before[i] {
				t.Errorf("seed %d: %+v = %v, was %v", seed, q, after, before[i])
			}
		}
	}
}
