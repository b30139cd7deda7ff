package depot_test

import (
	"fmt"
	"strings"
	"testing"

	"depot/api"
	"depot/depot"
)

// fedWith feeds the public: of each text, behind the name and `@` comes the
// version, behind a blank come the wants.
func fedWith(t *testing.T, d *depot.Depot, texts ...string) {
	t.Helper()
	for _, text := range texts {
		head, wants, _ := strings.Cut(text, " ")
		name, version, _ := strings.Cut(head, "@")
		feed(t, d, name, int(version[0]-'0'), wants, api.OK)
	}
}

// The sixth and the seventh example of the document.
func TestExamplesOfResolve(t *testing.T) {
	d := opened(t, 7)
	found(t, d, "", 7, "acme", api.OK)
	mint(t, d, "", 7, "acme", 3, 1, 100, api.OK)
	publish(t, d, "acme", 1, "x", 1, "", api.OK)
	publish(t, d, "acme", 1, "x", 3, "y 1-2", api.OK)
	yank(t, d, "acme", 1, "x", 3, false, api.OK)
	fedWith(t, d, "acme/x@9", "y@2", "y@1")
	resolve(t, d, "acme", 1, "acme/x 1-9", 9, "acme/x@1#acme;", 1, api.OK)
	resolve(t, d, "acme", 1, "acme/x 3-3", 9, "acme/x@3#acme;y@2#public;", 2, api.OK)
	resolve(t, d, "acme", 1, "acme/x 3-3", 1, "", 1, api.ErrBudget)
	resolve(t, d, "acme", 1, "acme/x 3-3,y 1-1", 9, "acme/x@3#acme;y@1#public;", 2, api.OK)
	resolve(t, d, "acme", 1, "y 3-9", 9, "", 0, api.ErrNone)
	resolve(t, d, "acme", 1, "", 0, "", 0, api.OK)
	fedWith(t, d, "z@1 y 1-1", "z@2 y 3-4")
	resolve(t, d, "acme", 1, "y 1-2,z 1-2", 9, "y@1#public;z@1#public;", 6, api.OK)
}

func TestP14FirstErrorFirst(t *testing.T) {
	d := furnished(t)
	mint(t, d, "", 7, "acme", api.Reader, 4, 10, api.OK)
	revoke(t, d, "", 7, "acme", 2, api.OK)
	tick(t, d, 10, api.OK)
	fedWith(t, d, "y@1")
	noBudgets := []int{least, -1, api.MaxBudget + 1, most}
	for _, budget := range append([]int{0, 1, api.MaxBudget}, noBudgets...) {
		for _, wants := range append([]string{"", "y 1-1", "z 1-1"}, noWants...) {
			resolve(t, d, "acme", 2, wants, budget, "", 0, api.ErrToken)
			resolve(t, d, "acme", 4, wants, budget, "", 0, api.ErrToken)
			resolve(t, d, "acme", 9, wants, budget, "", 0, api.ErrToken)
			resolve(t, d, "", 8, wants, budget, "", 0, api.ErrToken)
			resolve(t, d, "zzz", 1, wants, budget, "", 0, api.ErrToken)
			resolve(t, d, "public", 1, wants, budget, "", 0, api.ErrToken)
		}
		for _, wants := range noWants {
			resolve(t, d, "acme", 1, wants, budget, "", 0, api.ErrDeps)
			resolve(t, d, "", 7, wants, budget, "", 0, api.ErrDeps)
		}
	}
	for _, budget := range noBudgets {
		for _, wants := range []string{"", "y 1-1", "z 1-1"} {
			resolve(t, d, "acme", 1, wants, budget, "", 0, api.ErrArg)
			resolve(t, d, "", 7, wants, budget, "", 0, api.ErrArg)
		}
	}
	for id := 1; id <= 3; id += 2 {
		fits(t, d, "acme", id, "y 1-1", "y@1#public;", 1)
	}
	fits(t, d, "", 7, "y 1-1", "y@1#public;", 1)
}

func TestP14NothingAsked(t *testing.T) {
	d := furnished(t)
	fits(t, d, "acme", 1, "", "", 0)
	fits(t, d, "", 7, "", "", 0)
	fedWith(t, d, "y@1")
	publish(t, d, "acme", 2, "x", 1, "", api.OK)
	fits(t, d, "acme", 1, "", "", 0)
	fits(t, d, "", 7, "", "", 0)
}

// The greatest version in the want is taken, and versions outside of it make
// no steps.
func TestP14GreatestInTheWant(t *testing.T) {
	d := furnished(t)
	there := map[int]bool{2: true, 3: true, 5: true, 9: true}
	for _, version := range []int{5, 2, 9, 3} {
		publish(t, d, "acme", 2, "x", version, "", api.OK)
		feed(t, d, "x", version, "", api.OK)
	}
	for from := 1; from <= 9; from++ {
		for to := from; to <= 9; to++ {
			best := to
			for best >= from && !there[best] {
				best--
			}
			if best < from {
				noFit(t, d, "acme", 1, fmt.Sprintf("acme/x %d-%d", from, to), 0)
				noFit(t, d, "acme", 1, fmt.Sprintf("x %d-%d", from, to), 0)
				continue
			}
			fits(t, d, "acme", 1, fmt.Sprintf("acme/x %d-%d", from, to), fmt.Sprintf("acme/x@%d#acme;", best), 1)
			fits(t, d, "acme", 1, fmt.Sprintf("x %d-%d", from, to), fmt.Sprintf("x@%d#public;", best), 1)
		}
	}
}

// A name that is not seen, and one without a version, are told alike, and
// whoever wants it cannot be chosen.
func TestP14NotSeen(t *testing.T) {
	d := furnished(t)
	publish(t, d, "acme", 2, "x", 1, "", api.OK)
	publish(t, d, "acme", 2, "y", 1, "", api.OK)
	grant(t, d, "acme", 3, "y", "beta", api.OK)
	fedWith(t, d, "x@1 acme/x 1-9", "q@1 acme/q 1-9", "n@1 nope 1-9", "z@1 zzz/x 1-9")
	for _, wants := range []string{"acme/x 1-9", "acme/x 1-1", "acme/q 1-9", "nope 1-9", "zzz/x 1-9", "acme/x 1-1,acme/q 1-1", "nope 1-1,acme/y 1-1"} {
		noFit(t, d, "beta", 1, wants, 0)
		noFit(t, d, "", 7, wants, 0)
	}
	for _, wants := range []string{"x 1-1", "q 1-1", "n 1-1", "z 1-1"} {
		noFit(t, d, "beta", 1, wants, 1)
		noFit(t, d, "", 7, wants, 1)
	}
	noFit(t, d, "beta", 1, "acme/y 1-1,nope 1-1", 1)
	fits(t, d, "beta", 1, "acme/y 1-1", "acme/y@1#acme;", 1)
	noFit(t, d, "", 7, "acme/y 1-1", 0)
	fits(t, d, "acme", 1, "x 1-1", "acme/x@1#acme;x@1#public;", 2)
	noFit(t, d, "acme", 1, "q 1-1", 1)
	grant(t, d, "acme", 3, "x", "beta", api.OK)
	fits(t, d, "beta", 1, "x 1-1", "acme/x@1#acme;x@1#public;", 2)
	noFit(t, d, "", 7, "x 1-1", 1)
}

// What a granted version wants may still not be seen.
func TestP14GrantedWantsUnseen(t *testing.T) {
	d := furnished(t)
	publish(t, d, "acme", 2, "x", 1, "", api.OK)
	publish(t, d, "acme", 2, "x", 2, "acme/y 1-1", api.OK)
	publish(t, d, "acme", 2, "y", 1, "", api.OK)
	grant(t, d, "acme", 3, "x", "beta", api.OK)
	fits(t, d, "acme", 1, "acme/x 1-9", "acme/x@2#acme;acme/y@1#acme;", 2)
	fits(t, d, "beta", 1, "acme/x 1-9", "acme/x@1#acme;", 2)
	noFit(t, d, "beta", 1, "acme/x 2-9", 1)
	grant(t, d, "acme", 3, "y", "beta", api.OK)
	fits(t, d, "beta", 1, "acme/x 1-9", "acme/x@2#acme;acme/y@1#acme;", 2)
}

func TestP14Whose(t *testing.T) {
	d := furnished(t)
	publish(t, d, "acme", 2, "x", 2, "late/x 1-9,x 1-9,beta/x 1-9", api.OK)
	publish(t, d, "beta", 2, "x", 3, "", api.OK)
	grant(t, d, "beta", 3, "x", "acme", api.OK)
	fedWith(t, d, "x@1", "late/x@4", "late/x@5", "late@9")
	fits(t, d, "acme", 1, "acme/x 1-9", "acme/x@2#acme;beta/x@3#beta;late/x@5#public;x@1#public;", 4)
	fits(t, d, "acme", 1, "late 1-9", "late@9#public;", 1)
	found(t, d, "", 7, "late", api.OK)
	noFit(t, d, "acme", 1, "acme/x 1-9", 1)
	fits(t, d, "acme", 1, "late 1-9", "late@9#public;", 1)
	mint(t, d, "", 7, "late", api.Admin, 1, 100, api.OK)
	publish(t, d, "late", 1, "x", 1, "", api.OK)
	noFit(t, d, "acme", 1, "acme/x 1-9", 1)
	grant(t, d, "late", 1, "x", "acme", api.OK)
	fits(t, d, "acme", 1, "acme/x 1-9", "acme/x@2#acme;beta/x@3#beta;late/x@1#late;x@1#public;", 4)
}

// Names are sorted as texts, not in the order of the steps: one that ends
// first is the lesser, and `/` is less than any letter.
func TestP14ByNames(t *testing.T) {
	d := furnished(t)
	fedWith(t, d, "b@1 ab 1-1,a 1-1", "ab@1 aa/z 1-1", "aa/z@1", "a@1 zzzz 1-1,a/b 1-1", "a/b@1", "a/ba@1", "zzzz@1", "aa@1")
	fits(t, d, "acme", 1, "b 1-1,a/ba 1-1,aa 1-1", "a@1#public;a/b@1#public;a/ba@1#public;aa@1#public;aa/z@1#public;ab@1#public;b@1#public;zzzz@1#public;", 8)
}

func TestP14Yanked(t *testing.T) {
	d := furnished(t)
	publish(t, d, "acme", 2, "x", 1, "", api.OK)
	publish(t, d, "acme", 2, "x", 3, "", api.OK)
	publish(t, d, "acme", 2, "y", 3, "", api.OK)
	publish(t, d, "acme", 2, "p", 1, "acme/x 3-3", api.OK)
	publish(t, d, "acme", 2, "p", 2, "acme/x 1-9", api.OK)
	publish(t, d, "acme", 2, "all", 1, "", api.OK)
	fedWith(t, d, "x@3")
	yank(t, d, "acme", 2, "x", 3, false, api.OK)
	yank(t, d, "acme", 2, "y", 3, false, api.OK)
	yank(t, d, "acme", 2, "all", 1, false, api.OK)
	for _, wants := range []string{"acme/x 2-3", "acme/x 3-4", "acme/x 3-9", "acme/x 2-9", "acme/y 1-9", "acme/all 1-9", "acme/all 1-2"} {
		noFit(t, d, "acme", 1, wants, 0)
	}
	fits(t, d, "acme", 1, "acme/x 1-9", "acme/x@1#acme;", 1)
	fits(t, d, "acme", 1, "acme/x 3-3", "acme/x@3#acme;", 1)
	fits(t, d, "acme", 1, "acme/all 1-1", "acme/all@1#acme;", 1)
	// It may be any of the wants that were asked.
	fits(t, d, "acme", 1, "acme/x 1-9,acme/x 3-3", "acme/x@3#acme;", 1)
	fits(t, d, "acme", 1, "acme/x 3-3,acme/x 1-9", "acme/x@3#acme;", 1)
	fits(t, d, "acme", 1, "acme/x 2-4,x 1-9,acme/x 1-3,acme/x 3-3", "acme/x@3#acme;x@3#public;", 2)
	// It must be in the want all the same.
	noFit(t, d, "acme", 1, "acme/x 1-2,acme/x 3-3", 1)
	noFit(t, d, "acme", 1, "acme/x 4-9,acme/x 3-3", 0)
	noFit(t, d, "acme", 1, "acme/x 1-1,acme/x 3-3", 1)
	// Neither another name nor another version helps, nor do two halves.
	noFit(t, d, "acme", 1, "acme/y 2-3,acme/x 3-3", 0)
	noFit(t, d, "acme", 1, "acme/y 2-3,x 3-3", 0)
	noFit(t, d, "acme", 1, "acme/x 2-3,x 3-3", 0)
	noFit(t, d, "acme", 1, "acme/x 2-3,acme/x 3-4", 0)
	noFit(t, d, "acme", 1, "acme/x 2-3,acme/x 1-1", 0)
	// What a version wants was not asked, but may have what was asked.
	noFit(t, d, "acme", 1, "acme/p 1-1", 1)
	fits(t, d, "acme", 1, "acme/p 2-2", "acme/p@2#acme;acme/x@1#acme;", 2)
	fits(t, d, "acme", 1, "acme/p 1-1,acme/x 3-3", "acme/p@1#acme;acme/x@3#acme;", 2)
	fits(t, d, "acme", 1, "acme/p 2-2,acme/x 3-3", "acme/p@2#acme;acme/x@3#acme;", 2)
	// Back again, it counts.
	yank(t, d, "acme", 2, "x", 3, true, api.OK)
	fits(t, d, "acme", 1, "acme/x 1-9", "acme/x@3#acme;", 1)
	fits(t, d, "acme", 1, "acme/p 1-1", "acme/p@1#acme;acme/x@3#acme;", 2)
}

// To whom a package is granted, a yanked version is a candidate like at home.
func TestP14YankedAndGranted(t *testing.T) {
	d := furnished(t)
	publish(t, d, "acme", 2, "x", 2, "acme/y 1-1", api.OK)
	publish(t, d, "acme", 2, "y", 1, "", api.OK)
	yank(t, d, "acme", 2, "x", 2, false, api.OK)
	noFit(t, d, "beta", 1, "acme/x 2-2", 0)
	grant(t, d, "acme", 3, "x", "beta", api.OK)
	noFit(t, d, "beta", 1, "acme/x 1-2", 0)
	noFit(t, d, "beta", 1, "acme/x 2-2", 1)
	grant(t, d, "acme", 3, "y", "beta", api.OK)
	fits(t, d, "beta", 1, "acme/x 2-2", "acme/x@2#acme;acme/y@1#acme;", 2)
}

// A name that is chosen is held against each further want of it.
func TestP14WantedTwice(t *testing.T) {
	d := furnished(t)
	fedWith(t, d, "y@1", "y@2", "y@3", "s@1 s 1-1", "s@2 s 1-1", "a@1 b 1-9", "b@1 a 1-1", "b@2 a 2-2")
	fits(t, d, "acme", 1, "y 1-9,y 1-9", "y@3#public;", 1)
	fits(t, d, "acme", 1, "y 1-9,y 1-2", "y@2#public;", 2)
	fits(t, d, "acme", 1, "y 1-9,y 1-2,y 1-1", "y@1#public;", 3)
	fits(t, d, "acme", 1, "y 1-1,y 1-9,y 1-2", "y@1#public;", 1)
	noFit(t, d, "acme", 1, "y 1-1,y 2-2", 1)
	noFit(t, d, "acme", 1, "y 1-9,y 4-9", 3)
	noFit(t, d, "acme", 1, "y 4-9,y 1-9", 0)
	fits(t, d, "acme", 1, "y 3-3,y 3-3,y 3-3,y 3-3,y 3-3,y 3-3", "y@3#public;", 1)
	// One that wants itself, and two that want each other.
	fits(t, d, "acme", 1, "s 1-9", "s@1#public;", 2)
	noFit(t, d, "acme", 1, "s 2-9", 1)
	fits(t, d, "acme", 1, "a 1-9", "a@1#public;b@1#public;", 3)
	fits(t, d, "acme", 1, "b 1-9", "a@1#public;b@1#public;", 3)
	noFit(t, d, "acme", 1, "b 2-2", 1)
}

// All that was asked is gone through ahead of what the chosen versions want,
// and these in the order in which they were laid.
func TestP14TheOrderOfWants(t *testing.T) {
	d := furnished(t)
	fedWith(t, d, "a@1 c 1-1,d 1-9", "b@1 d 1-1", "c@1", "c@2", "d@1", "d@2")
	// a 1, b 1, c 1, d 2 (fails: b 1 wants d 1), d 1.
	fits(t, d, "acme", 1, "a 1-1,b 1-1", "a@1#public;b@1#public;c@1#public;d@1#public;", 5)
	// b 1, a 1, d 1, c 1.
	fits(t, d, "acme", 1, "b 1-1,a 1-1", "a@1#public;b@1#public;c@1#public;d@1#public;", 4)
	// a 1, c 2 (fails: a 1 wants c 1), c 1, d 2.
	fits(t, d, "acme", 1, "a 1-1,c 1-9", "a@1#public;c@1#public;d@2#public;", 4)
}

// What was laid behind the list since a choice goes with it: l 2 wants what
// nobody has, l 3 and its m want what goes with nothing, and of none of this
// is anything left with l 1.
func TestP14TakenBack(t *testing.T) {
	d := furnished(t)
	fedWith(t, d, "l@3 m 1-9,n 1-1", "l@2 nope 1-1,o 1-1", "l@1", "m@2 o 2-2,k 1-1", "m@1 k 1-1,o 2-2", "n@1", "o@1", "k@1 o 1-1")
	// l 3, o 1, m 2, n 1 (fails: o 1), m 1, n 1, k 1 (fails: o 1), l 2, o 1
	// (fails: nope), l 1, o 1.
	fits(t, d, "acme", 1, "l 1-3,o 1-1", "l@1#public;o@1#public;", 11)
	fits(t, d, "acme", 1, "l 1-1,o 1-1", "l@1#public;o@1#public;", 2)
	noFit(t, d, "acme", 1, "l 2-3,o 1-1", 9)
}

// A choice far ahead is taken back because of a want far behind.
func TestP14FarBack(t *testing.T) {
	d := furnished(t)
	fedWith(t, d, "top@1 l 1-9,r 1-9", "l@1", "l@2 deep 1-1", "r@1 deep 2-2", "deep@1", "deep@2")
	// top 1, l 2, r 1, deep 1 (fails), l 1, r 1, deep 2.
	fits(t, d, "acme", 1, "top 1-1", "deep@2#public;l@1#public;r@1#public;top@1#public;", 7)
}

// The same names are chosen in another order once the first way has failed.
func TestP14ChosenAgain(t *testing.T) {
	d := furnished(t)
	fedWith(t, d, "a@2 b 1-9,c 1-1", "a@1 c 1-9,b 1-9", "b@2 c 2-2", "b@1 c 2-2", "c@1", "c@2")
	// a 2, b 2, c 1 (fails), b 1, c 1 (fails), a 1, c 2, b 2.
	fits(t, d, "acme", 1, "a 1-9", "a@1#public;b@2#public;c@2#public;", 8)
}

// As many names as a holder may see, in a ring, each wanting others besides.
func TestP14AllThatMayBeSeen(t *testing.T) {
	d := furnished(t)
	var names []string
	for _, house := range []string{"acme", "beta", "c", "d", "e", "f"} {
		if house != "acme" && house != "beta" {
			found(t, d, "", 7, house, api.OK)
			mint(t, d, "", 7, house, api.Admin, 3, 100, api.OK)
		}
		for i := range api.MaxOwn {
			if house == "acme" || i < api.MaxGrants {
				names = append(names, house+"/"+string(rune('a'+i)))
			}
		}
	}
	for i := range api.MaxPublic {
		names = append(names, "y"+string(rune('a'+i)))
	}
	want := ""
	for i, name := range names {
		wants := fmt.Sprintf("%s 1-1,%s 1-9,%s 1-1,%s 1-2,ya 1-1,ya 1-9", names[0], names[(i+1)%len(names)], name, names[i/2])
		house, pack, scoped := strings.Cut(name, "/")
		switch {
		case !scoped:
			house = "public"
			feed(t, d, name, 1, wants, api.OK)
		case house == "acme":
			publish(t, d, house, 3, pack, 1, wants, api.OK)
		default:
			publish(t, d, house, 3, pack, 1, wants, api.OK)
			grant(t, d, house, 3, pack, "acme", api.OK)
		}
		want += name + "@1#" + house + ";"
	}
	fits(t, d, "acme", 1, names[0]+" 1-9", want, 66)
	fits(t, d, "acme", 1, "f/f 1-9", want, 66)
	noFit(t, d, "beta", 1, "ya 1-9", 1)
}

// tower makes twelve names with the versions 1 to 3, all of which ofTower
// wants, the last of them wants what nobody has, and acme/j wants this, too.
func tower(t *testing.T, wants string) *depot.Depot {
	t.Helper()
	d := furnished(t)
	for version := 1; version <= 3; version++ {
		for _, name := range []string{"a", "b", "c", "d", "e", "g"} {
			feed(t, d, name, version, "", api.OK)
		}
		feed(t, d, "f", version, "acme/g 1-9,acme/h 1-9,acme/i 1-9,acme/j 1-9,g 1-9,h 1-9", api.OK)
		for _, pack := range []string{"g", "h", "i"} {
			publish(t, d, "acme", 2, pack, version, "", api.OK)
		}
		publish(t, d, "acme", 2, "j", version, wants, api.OK)
		feed(t, d, "h", version, "nope 1-1", api.OK)
	}
	return d
}

const ofTower = "a 1-9,b 1-9,c 1-9,d 1-9,e 1-9,f 1-9"

// Nothing goes together, and nearly the greatest budget is needed to tell it:
// 3 + 9 + 27 and so on, twelve times.
func TestP14ManySteps(t *testing.T) {
	d := tower(t, "")
	noFit(t, d, "acme", 1, ofTower, 797160)
}

// With one more name, no budget is enough.
func TestP14MoreThanMaxBudget(t *testing.T) {
	d := tower(t, "beta/x 1-9")
	for version := 4; version <= 6; version++ {
		publish(t, d, "beta", 2, "x", version, "", api.OK)
	}
	grant(t, d, "beta", 3, "x", "acme", api.OK)
	for _, budget := range []int{0, 1, 797160, api.MaxBudget - 1, api.MaxBudget} {
		resolve(t, d, "acme", 1, ofTower, budget, "", budget, api.ErrBudget)
	}
}
