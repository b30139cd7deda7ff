package depot_test

import (
	"fmt"
	"strings"
	"testing"

	"depot/api"
)

// Texts that are no names. (Of oddTexts, a/b and acme/x are.)
var noNames = []string{
	"", "/", "a/", "/a", "a//b", "a/b/c", "abcde", "abcde/x", "x/abcde", "A", "acme/X", "Acme/x", "a1", "a b", "a/b ", " a/b", "a-b", "é", "a\x00", "acme\xff/x", "x 1-2", strings.Repeat("a/", 1<<16),
}

// Texts that are no words, for packages and houses.
var noWords = append([]string{"acme/x", "a/b"}, noNames...)

// Texts that are no wants.
var noWants = []string{
	" ", ",", "x", "x 1", "x 1-", "x 2-1", "x 0-1", "x 1-0", "x 1-10", "x  1-2", " x 1-2", "x 1-2 ", "x 1-2,", ",x 1-2", "x 1-2,,x 1-2", "x 1-2, x 1-2", "x 1-2;x 1-2", "x 1:2", "X 1-2", "abcde 1-2", "a/b/c 1-2", "/x 1-2", "x/ 1-2", "1-2", " 1-2",
	"x 1-1,x 1-1,x 1-1,x 1-1,x 1-1,x 1-1,x 1-1", "x\x001-2", strings.Repeat("x", 1<<16), strings.Repeat("x 1-1,", 1<<12),
}

// Texts that are wants.
var someWants = []string{
	"", "x 1-1", "x 1-9", "x 9-9", "acme/x 2-4", "abcd/abcd 9-9,y 1-9", "x 1-1,x 2-2,x 1-1", "a 1-9,b 2-8,c 3-7,d 4-6,e 5-5,f/f 1-2",
}

var noVersions = []int{least, -1, 0, 10, 11, most}

func TestP9Feed(t *testing.T) {
	d := furnished(t)
	for i, wants := range someWants {
		feed(t, d, "y", 9-i, wants, api.OK)
	}
	feed(t, d, "abcd", 1, "", api.OK)
	feed(t, d, "acme/x", 9, "", api.OK)
	feed(t, d, "zz/q", 3, "zz/q 3-3", api.OK)
	feed(t, d, "abcd/efgh", 1, "", api.OK)
	for _, c := range []struct {
		house string
		id    int
	}{{"", 7}, {"acme", 1}, {"beta", 2}, {"beta", 3}} {
		show(t, d, c.house, c.id, "y", "public:2,3,4,5,6,7,8,9")
		show(t, d, c.house, c.id, "abcd", "public:1")
		show(t, d, c.house, c.id, "zz/q", "public:3")
		show(t, d, c.house, c.id, "abcd/efgh", "public:1")
		show(t, d, c.house, c.id, "efgh", "")
		show(t, d, c.house, c.id, "acme/x", "")
	}
}

func TestP9FirstErrorFirst(t *testing.T) {
	d := furnished(t)
	for i := range api.MaxPublic - 1 {
		feed(t, d, "y"+string(rune('a'+i)), 1, "", api.OK)
	}
	feed(t, d, "y", 1, "", api.OK)
	// No room is left, so that ErrRoom applies to each of these.
	for _, name := range noNames {
		feed(t, d, name, 0, "?", api.ErrName)
		feed(t, d, name, 1, "", api.ErrName)
	}
	for _, version := range noVersions {
		feed(t, d, "y", version, "?", api.ErrArg)
		feed(t, d, "z", version, "", api.ErrArg)
	}
	for _, wants := range noWants {
		feed(t, d, "y", 1, wants, api.ErrDeps)
		feed(t, d, "z", 1, wants, api.ErrDeps)
	}
	feed(t, d, "y", 1, "", api.ErrTaken)
	feed(t, d, "y", 1, "x 1-2", api.ErrTaken)
	feed(t, d, "y", 2, "", api.ErrRoom)
	feed(t, d, "z", 1, "", api.ErrRoom)
	show(t, d, "acme", 1, "y", "public:1")
	show(t, d, "acme", 1, "z", "")
}

// What was fed of a house's names needs room like all else, and is taken.
func TestP9RoomOfHousesNames(t *testing.T) {
	d := furnished(t)
	for i := range 12 {
		feed(t, d, "acme/"+string(rune('a'+i)), 5, "", api.OK)
		feed(t, d, "gone/"+string(rune('a'+i)), 5, "", api.OK)
	}
	found(t, d, "", 7, "gone", api.OK)
	feed(t, d, "acme/a", 5, "", api.ErrTaken)
	feed(t, d, "gone/a", 5, "", api.ErrTaken)
	feed(t, d, "acme/a", 6, "", api.ErrRoom)
	feed(t, d, "y", 1, "", api.ErrRoom)
	show(t, d, "acme", 1, "gone/a", "")
}

func TestP10Publish(t *testing.T) {
	d := furnished(t)
	for i, wants := range someWants {
		publish(t, d, "acme", 2+i%2, "x", 9-i, wants, api.OK)
	}
	publish(t, d, "acme", 3, "abcd", 1, "", api.OK)
	publish(t, d, "beta", 2, "x", 1, "", api.OK)
	for id := 1; id <= 3; id++ {
		show(t, d, "acme", id, "acme/x", "acme:2,3,4,5,6,7,8,9")
		show(t, d, "acme", id, "acme/abcd", "acme:1")
		show(t, d, "acme", id, "beta/x", "")
		show(t, d, "acme", id, "x", "")
		show(t, d, "beta", id, "beta/x", "beta:1")
		show(t, d, "beta", id, "acme/x", "")
	}
	publish(t, d, "acme", 3, "x", 1, "", api.OK)
	show(t, d, "acme", 1, "acme/x", "acme:1,2,3,4,5,6,7,8,9")
}

func TestP10WhoPublishes(t *testing.T) {
	d := furnished(t)
	mint(t, d, "", 7, "acme", api.Writer, 4, 10, api.OK)
	publish(t, d, "acme", 4, "x", 1, "", api.OK)
	tick(t, d, 10, api.OK)
	publish(t, d, "acme", 4, "x", 2, "", api.ErrToken)
	revoke(t, d, "acme", 3, "acme", 2, api.OK)
	publish(t, d, "acme", 2, "x", 2, "", api.ErrToken)
	publish(t, d, "acme", 1, "x", 2, "", api.ErrRole)
	publish(t, d, "", 7, "x", 2, "", api.ErrRole)
	publish(t, d, "", 3, "x", 2, "", api.ErrToken)
	publish(t, d, "acme", 7, "x", 2, "", api.ErrToken)
	publish(t, d, "zzz", 3, "x", 2, "", api.ErrToken)
	show(t, d, "acme", 3, "acme/x", "acme:1")
	publish(t, d, "acme", 3, "x", 2, "", api.OK)
	show(t, d, "acme", 3, "acme/x", "acme:1,2")
}

func TestP10FirstErrorFirst(t *testing.T) {
	d := furnished(t)
	for i := range api.MaxOwn - 1 {
		publish(t, d, "acme", 2, string(rune('a'+i)), 1, "", api.OK)
	}
	publish(t, d, "acme", 2, "x", 9, "", api.OK)
	// No room is left, so that ErrRoom applies to each of these.
	for _, pack := range append([]string{"x", "z"}, noWords...) {
		for _, version := range append([]int{1, 9}, noVersions...) {
			publish(t, d, "acme", 4, pack, version, "?", api.ErrToken)
			publish(t, d, "", 8, pack, version, "", api.ErrToken)
			publish(t, d, "zzz", 2, pack, version, "", api.ErrToken)
			publish(t, d, "acme", 1, pack, version, "?", api.ErrRole)
			publish(t, d, "", 7, pack, version, "", api.ErrRole)
		}
	}
	for _, pack := range noWords {
		publish(t, d, "acme", 2, pack, 0, "?", api.ErrName)
		publish(t, d, "acme", 3, pack, 1, "", api.ErrName)
	}
	for _, version := range noVersions {
		publish(t, d, "acme", 2, "x", version, "?", api.ErrArg)
		publish(t, d, "acme", 2, "z", version, "", api.ErrArg)
	}
	for _, wants := range noWants {
		publish(t, d, "acme", 2, "x", 9, wants, api.ErrDeps)
		publish(t, d, "acme", 2, "z", 1, wants, api.ErrDeps)
	}
	publish(t, d, "acme", 2, "x", 9, "", api.ErrTaken)
	publish(t, d, "acme", 2, "x", 9, "y 1-2", api.ErrTaken)
	publish(t, d, "acme", 2, "x", 8, "", api.ErrRoom)
	publish(t, d, "acme", 2, "z", 1, "", api.ErrRoom)
	show(t, d, "acme", 1, "acme/x", "acme:9")
	// The room is a house's own.
	publish(t, d, "beta", 2, "z", 1, "", api.OK)
	feed(t, d, "z", 1, "", api.OK)
}

// Yanking makes no room and frees no version.
func TestP10YankedStays(t *testing.T) {
	d := furnished(t)
	for i := range api.MaxOwn {
		pack := string(rune('a' + i))
		publish(t, d, "acme", 2, pack, 1, "", api.OK)
		yank(t, d, "acme", 2, pack, 1, false, api.OK)
		publish(t, d, "acme", 2, pack, 1, "", api.ErrTaken)
	}
	publish(t, d, "acme", 2, "x", 1, "", api.ErrRoom)
	show(t, d, "acme", 1, "acme/a", "acme:1*")
}

func TestP11Yank(t *testing.T) {
	d := furnished(t)
	publish(t, d, "acme", 2, "x", 1, "", api.OK)
	publish(t, d, "acme", 2, "x", 3, "", api.OK)
	publish(t, d, "acme", 2, "y", 3, "", api.OK)
	publish(t, d, "beta", 2, "x", 3, "", api.OK)
	for _, c := range []struct {
		id, version int
		back        bool
		want        string
	}{
		{2, 3, true, "acme:1,3"}, {2, 3, false, "acme:1,3*"}, {3, 3, false, "acme:1,3*"}, {3, 1, false, "acme:1*,3*"},
		{2, 3, true, "acme:1*,3"}, {2, 3, true, "acme:1*,3"}, {3, 1, true, "acme:1,3"},
	} {
		yank(t, d, "acme", c.id, "x", c.version, c.back, api.OK)
		show(t, d, "acme", 1, "acme/x", c.want)
	}
	yank(t, d, "acme", 2, "x", 3, false, api.OK)
	show(t, d, "acme", 1, "acme/y", "acme:3")
	show(t, d, "beta", 1, "beta/x", "beta:3")
}

func TestP11FirstErrorFirst(t *testing.T) {
	d := furnished(t)
	publish(t, d, "acme", 2, "x", 3, "", api.OK)
	publish(t, d, "beta", 2, "y", 3, "", api.OK)
	feed(t, d, "y", 3, "", api.OK)
	feed(t, d, "acme/y", 3, "", api.OK)
	for _, back := range []bool{false, true} {
		for _, pack := range append([]string{"x", "z"}, noWords...) {
			for _, version := range append([]int{1, 3}, noVersions...) {
				yank(t, d, "acme", 4, pack, version, back, api.ErrToken)
				yank(t, d, "", 8, pack, version, back, api.ErrToken)
				yank(t, d, "zzz", 2, pack, version, back, api.ErrToken)
				yank(t, d, "acme", 1, pack, version, back, api.ErrRole)
				yank(t, d, "", 7, pack, version, back, api.ErrRole)
			}
		}
		for _, pack := range noWords {
			for _, version := range append([]int{3}, noVersions...) {
				yank(t, d, "acme", 2, pack, version, back, api.ErrName)
				yank(t, d, "acme", 3, pack, version, back, api.ErrName)
			}
		}
		for _, version := range append([]int{1, 2, 4, 9}, noVersions...) {
			yank(t, d, "acme", 2, "x", version, back, api.ErrMissing)
		}
		yank(t, d, "acme", 2, "y", 3, back, api.ErrMissing)
		yank(t, d, "beta", 2, "x", 3, back, api.ErrMissing)
	}
	show(t, d, "acme", 1, "acme/x", "acme:3")
	show(t, d, "beta", 1, "beta/y", "beta:3")
	show(t, d, "beta", 1, "y", "public:3")
}

func TestP12Grant(t *testing.T) {
	d := furnished(t)
	publish(t, d, "acme", 2, "x", 1, "", api.OK)
	publish(t, d, "acme", 2, "y", 2, "", api.OK)
	publish(t, d, "beta", 2, "x", 3, "", api.OK)
	show(t, d, "beta", 1, "acme/x", "")
	grant(t, d, "acme", 3, "x", "beta", api.OK)
	for id := 1; id <= 3; id++ {
		show(t, d, "beta", id, "acme/x", "acme:1")
		show(t, d, "beta", id, "acme/y", "")
		// A grant goes one way.
		show(t, d, "acme", id, "beta/x", "")
	}
	show(t, d, "", 7, "acme/x", "")
	publish(t, d, "acme", 2, "x", 4, "", api.OK)
	yank(t, d, "acme", 2, "x", 1, false, api.OK)
	show(t, d, "beta", 1, "acme/x", "acme:1*,4")
	// Who is let to see is not let to do.
	publish(t, d, "beta", 2, "x", 1, "", api.OK)
	yank(t, d, "beta", 2, "x", 4, false, api.ErrMissing)
	show(t, d, "beta", 1, "acme/x", "acme:1*,4")
	show(t, d, "beta", 1, "beta/x", "beta:1,3")
}

// A grant of a package whose versions are all yanked is one, too.
func TestP12GrantOfYanked(t *testing.T) {
	d := furnished(t)
	publish(t, d, "acme", 2, "x", 1, "", api.OK)
	yank(t, d, "acme", 2, "x", 1, false, api.OK)
	grant(t, d, "acme", 3, "x", "beta", api.OK)
	show(t, d, "beta", 1, "acme/x", "acme:1*")
}

func TestP12HouseMayComeLater(t *testing.T) {
	d := furnished(t)
	publish(t, d, "acme", 2, "x", 1, "", api.OK)
	grant(t, d, "acme", 3, "x", "late", api.OK)
	grant(t, d, "acme", 3, "x", "late", api.ErrTaken)
	found(t, d, "", 7, "late", api.OK)
	mint(t, d, "", 7, "late", api.Reader, 1, 100, api.OK)
	show(t, d, "late", 1, "acme/x", "acme:1")
	found(t, d, "", 7, "last", api.OK)
	mint(t, d, "", 7, "last", api.Reader, 1, 100, api.OK)
	show(t, d, "last", 1, "acme/x", "")
}

func TestP12Room(t *testing.T) {
	d := furnished(t)
	publish(t, d, "acme", 2, "x", 1, "", api.OK)
	publish(t, d, "acme", 2, "y", 1, "", api.OK)
	publish(t, d, "beta", 2, "x", 1, "", api.OK)
	for _, to := range []string{"acme", "beta", "c"} {
		grant(t, d, "acme", 3, "x", to, api.OK)
		grant(t, d, "acme", 3, "y", to, api.OK)
	}
	grant(t, d, "acme", 3, "x", "d", api.ErrRoom)
	grant(t, d, "acme", 3, "y", "acme", api.ErrTaken)
	show(t, d, "acme", 1, "acme/x", "acme:1")
	found(t, d, "", 7, "d", api.OK)
	mint(t, d, "", 7, "d", api.Reader, 1, 100, api.OK)
	show(t, d, "d", 1, "acme/x", "")
	// The room is a house's own.
	grant(t, d, "beta", 3, "x", "d", api.OK)
	show(t, d, "d", 1, "beta/x", "beta:1")
}

func TestP12FirstErrorFirst(t *testing.T) {
	d := furnished(t)
	publish(t, d, "acme", 2, "x", 1, "", api.OK)
	publish(t, d, "beta", 2, "y", 1, "", api.OK)
	feed(t, d, "y", 1, "", api.OK)
	feed(t, d, "acme/y", 1, "", api.OK)
	for i := range api.MaxGrants {
		grant(t, d, "acme", 3, "x", string(rune('a'+i)), api.OK)
	}
	// No room is left, so that ErrRoom applies to each of acme's.
	for _, pack := range append([]string{"x", "y"}, noWords...) {
		for _, to := range append([]string{"a", "beta"}, noWords...) {
			grant(t, d, "acme", 4, pack, to, api.ErrToken)
			grant(t, d, "", 8, pack, to, api.ErrToken)
			grant(t, d, "zzz", 3, pack, to, api.ErrToken)
			grant(t, d, "acme", 1, pack, to, api.ErrRole)
			grant(t, d, "acme", 2, pack, to, api.ErrRole)
			grant(t, d, "", 7, pack, to, api.ErrRole)
		}
	}
	for _, text := range noWords {
		grant(t, d, "acme", 3, text, "a", api.ErrName)
		grant(t, d, "acme", 3, "x", text, api.ErrName)
		grant(t, d, "acme", 3, "y", text, api.ErrName)
		grant(t, d, "acme", 3, text, text, api.ErrName)
	}
	grant(t, d, "acme", 3, "y", "a", api.ErrMissing)
	grant(t, d, "beta", 3, "x", "acme", api.ErrMissing)
	grant(t, d, "acme", 3, "x", "a", api.ErrTaken)
	grant(t, d, "acme", 3, "x", "beta", api.ErrRoom)
	show(t, d, "beta", 1, "acme/x", "")
}

func TestP13FirstErrorFirst(t *testing.T) {
	d := furnished(t)
	mint(t, d, "", 7, "acme", api.Reader, 4, 10, api.OK)
	revoke(t, d, "", 7, "acme", 2, api.OK)
	tick(t, d, 10, api.OK)
	publish(t, d, "acme", 3, "x", 1, "", api.OK)
	feed(t, d, "y", 1, "", api.OK)
	for _, name := range append([]string{"acme/x", "y", "z"}, noNames...) {
		noShow(t, d, "acme", 2, name, api.ErrToken)
		noShow(t, d, "acme", 4, name, api.ErrToken)
		noShow(t, d, "acme", 9, name, api.ErrToken)
		noShow(t, d, "", 8, name, api.ErrToken)
		noShow(t, d, "zzz", 1, name, api.ErrToken)
		noShow(t, d, "public", 1, name, api.ErrToken)
	}
	for _, name := range noNames {
		noShow(t, d, "acme", 1, name, api.ErrName)
		noShow(t, d, "", 7, name, api.ErrName)
	}
	for _, name := range []string{"z", "x", "acme", "acme/z", "beta/x", "zzz/x", "zzzz/zzzz"} {
		noShow(t, d, "acme", 1, name, api.ErrMissing)
		noShow(t, d, "", 7, name, api.ErrMissing)
	}
	noShow(t, d, "beta", 1, "acme/x", api.ErrMissing)
	noShow(t, d, "", 7, "acme/x", api.ErrMissing)
	show(t, d, "acme", 1, "acme/x", "acme:1")
	show(t, d, "", 7, "y", "public:1")
}

// A name is the public's till its house is there.
func TestP13WhoseANameIs(t *testing.T) {
	d := furnished(t)
	feed(t, d, "late/x", 2, "", api.OK)
	feed(t, d, "late", 7, "", api.OK)
	for _, house := range []string{"acme", "beta"} {
		show(t, d, house, 1, "late/x", "public:2")
	}
	show(t, d, "", 7, "late/x", "public:2")
	found(t, d, "", 7, "late", api.OK)
	mint(t, d, "", 7, "late", api.Admin, 1, 100, api.OK)
	for _, house := range []string{"acme", "beta", "late"} {
		show(t, d, house, 1, "late/x", "")
		// A plain name stays the public's, also if a house is called so.
		show(t, d, house, 1, "late", "public:7")
	}
	show(t, d, "", 7, "late/x", "")
	publish(t, d, "late", 1, "x", 5, "", api.OK)
	feed(t, d, "late/x", 3, "", api.OK)
	show(t, d, "late", 1, "late/x", "late:5")
	show(t, d, "acme", 1, "late/x", "")
	grant(t, d, "late", 1, "x", "acme", api.OK)
	show(t, d, "acme", 1, "late/x", "late:5")
	show(t, d, "", 7, "late/x", "")
}

// One text under three names: as the public's plain one, and as two houses'.
func TestP13NamesApart(t *testing.T) {
	d := furnished(t)
	feed(t, d, "x", 1, "", api.OK)
	publish(t, d, "acme", 2, "x", 2, "", api.OK)
	publish(t, d, "beta", 2, "x", 3, "", api.OK)
	yank(t, d, "beta", 2, "x", 3, false, api.OK)
	grant(t, d, "acme", 3, "x", "beta", api.OK)
	show(t, d, "acme", 1, "x", "public:1")
	show(t, d, "beta", 1, "x", "public:1")
	show(t, d, "beta", 1, "acme/x", "acme:2")
	show(t, d, "beta", 1, "beta/x", "beta:3*")
	show(t, d, "acme", 1, "beta/x", "")
}

func TestP13EveryVersion(t *testing.T) {
	for version := 1; version <= api.MaxVersion; version++ {
		d := furnished(t)
		publish(t, d, "acme", 2, "x", version, "", api.OK)
		feed(t, d, "x", version, "", api.OK)
		show(t, d, "acme", 1, "acme/x", fmt.Sprintf("acme:%d", version))
		show(t, d, "acme", 1, "x", fmt.Sprintf("public:%d", version))
		yank(t, d, "acme", 2, "x", version, false, api.OK)
		show(t, d, "acme", 1, "acme/x", fmt.Sprintf("acme:%d*", version))
	}
}

// The third to the fifth example of the document.
func TestExamplesOfPackages(t *testing.T) {
	d := opened(t, 7)
	found(t, d, "", 7, "acme", api.OK)
	mint(t, d, "", 7, "acme", 3, 1, 100, api.OK)
	publish(t, d, "acme", 1, "x", 1, "", api.OK)
	publish(t, d, "acme", 1, "x", 3, "y 1-2", api.OK)
	show(t, d, "acme", 1, "acme/x", "acme:1,3")
	yank(t, d, "acme", 1, "x", 3, false, api.OK)
	show(t, d, "acme", 1, "acme/x", "acme:1,3*")

	found(t, d, "", 7, "beta", api.OK)
	mint(t, d, "", 7, "beta", 3, 5, 100, api.OK)
	show(t, d, "beta", 5, "acme/x", "")
	show(t, d, "beta", 5, "acme/q", "")
	grant(t, d, "acme", 1, "x", "beta", api.OK)
	show(t, d, "beta", 5, "acme/x", "acme:1,3*")

	feed(t, d, "acme/x", 9, "", api.OK)
	show(t, d, "acme", 1, "acme/x", "acme:1,3*")
	feed(t, d, "y", 2, "", api.OK)
	feed(t, d, "y", 1, "", api.OK)
	show(t, d, "acme", 1, "y", "public:1,2")
}
