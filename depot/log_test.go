package depot_test

import (
	"fmt"
	"reflect"
	"strings"
	"testing"

	"depot/api"
	"depot/depot"
)

// The last example of the document. (An empty log can be read by nobody, for
// without a token there is no Admin: its sum is tested in package journal.)
func TestExamplesOfLog(t *testing.T) {
	d := opened(t, 7)
	found(t, d, "", 7, "acme", api.OK)
	mint(t, d, "", 7, "acme", 3, 1, 100, api.OK)
	mint(t, d, "acme", 1, "acme", 1, 2, 10, api.OK)
	tick(t, d, 10, api.OK)
	mint(t, d, "acme", 1, "beta", 1, 2, 10, api.ErrRole)
	publish(t, d, "acme", 1, "x", 1, "", api.OK)
	publish(t, d, "acme", 1, "x", 3, "y 1-2", api.OK)
	yank(t, d, "acme", 1, "x", 3, false, api.OK)
	found(t, d, "", 7, "beta", api.OK)
	mint(t, d, "", 7, "beta", 3, 5, 100, api.OK)
	grant(t, d, "acme", 1, "x", "beta", api.OK)
	logged(t, d, "acme", 1, "7:mint 1 3 100;1:mint 2 1 10;1:publish x 1;1:publish x 3;1:yank x 3;1:grant x beta;")
	logged(t, d, "beta", 5, "7:mint 5 3 100;")
}

// Each call that does something, by each that may do it, lays one line behind
// the log of one house.
func TestP15EachLine(t *testing.T) {
	d := furnished(t)
	log := furnishing
	for _, c := range []struct {
		e    api.Errno
		line string
	}{
		{d.Mint("", 7, "acme", api.Admin, 4, 50), "7:mint 4 3 50;"},
		{d.Mint("acme", 3, "acme", api.Writer, 5, 1), "3:mint 5 2 1;"},
		{d.Mint("acme", 4, "acme", api.Reader, 6, 99), "4:mint 6 1 99;"},
		{d.Revoke("", 7, "acme", 5), "7:revoke 5;"},
		{d.Revoke("acme", 3, "acme", 6), "3:revoke 6;"},
		{d.Publish("acme", 2, "x", 1, ""), "2:publish x 1;"},
		{d.Publish("acme", 3, "abcd", 9, "x 1-2,acme/x 1-9"), "3:publish abcd 9;"},
		{d.Yank("acme", 2, "x", 1, false), "2:yank x 1;"},
		{d.Yank("acme", 2, "x", 1, true), "2:back x 1;"},
		{d.Yank("acme", 3, "abcd", 9, true), "3:back abcd 9;"},
		{d.Yank("acme", 3, "abcd", 9, true), "3:back abcd 9;"},
		{d.Yank("acme", 4, "abcd", 9, false), "4:yank abcd 9;"},
		{d.Yank("acme", 4, "abcd", 9, false), "4:yank abcd 9;"},
		{d.Grant("acme", 3, "abcd", "beta"), "3:grant abcd beta;"},
		{d.Grant("acme", 4, "x", "late"), "4:grant x late;"},
		{d.Grant("acme", 4, "x", "acme"), "4:grant x acme;"},
		{d.Revoke("acme", 4, "acme", 4), "4:revoke 4;"},
	} {
		if c.e != api.OK {
			t.Errorf("what lays %q is answered %d", c.line, c.e)
		}
		log += c.line
	}
	logged(t, d, "acme", 3, log)
	logged(t, d, "beta", 3, furnishing)
	notLogged(t, d, "acme", 4, api.ErrToken)
}

// The log and its sum are right behind each line, not at the end alone.
func TestP15LineByLine(t *testing.T) {
	d := furnished(t)
	log := furnishing
	logged(t, d, "beta", 3, log)
	for version := 1; version <= api.MaxVersion; version++ {
		publish(t, d, "beta", 2, "x", version, "", api.OK)
		log += fmt.Sprintf("2:publish x %d;", version)
		logged(t, d, "beta", 3, log)
	}
	yank(t, d, "beta", 3, "x", 9, false, api.OK)
	logged(t, d, "beta", 3, log+"3:yank x 9;")
	yank(t, d, "beta", 3, "x", 9, true, api.OK)
	logged(t, d, "beta", 3, log+"3:yank x 9;3:back x 9;")
	grant(t, d, "beta", 3, "x", "acme", api.OK)
	logged(t, d, "beta", 3, log+"3:yank x 9;3:back x 9;3:grant x acme;")
	revoke(t, d, "beta", 3, "beta", 1, api.OK)
	logged(t, d, "beta", 3, log+"3:yank x 9;3:back x 9;3:grant x acme;3:revoke 1;")
	logged(t, d, "acme", 3, furnishing)
}

// A line is laid behind the log of the house of, not of the one that is shown:
// Root has no log.
func TestP15WhoseLog(t *testing.T) {
	d := furnished(t)
	mint(t, d, "", 7, "beta", api.Admin, 8, 60, api.OK)
	revoke(t, d, "", 7, "acme", 1, api.OK)
	logged(t, d, "acme", 3, furnishing+"7:revoke 1;")
	logged(t, d, "beta", 8, furnishing+"7:mint 8 3 60;")
	// A house's token may have Root's number.
	mint(t, d, "acme", 3, "acme", api.Admin, 7, 60, api.OK)
	revoke(t, d, "acme", 7, "acme", 2, api.OK)
	logged(t, d, "acme", 7, furnishing+"7:revoke 1;3:mint 7 3 60;7:revoke 2;")
	notLogged(t, d, "", 7, api.ErrRole)
}

func TestP15ManyDigits(t *testing.T) {
	for _, n := range []int{1, 9, 10, 11, 99, 100, 101, 1000, 1<<31 - 1, 1 << 31, 1 << 32, api.MaxClock, 1 << 62, most - 1, most} {
		d := opened(t, n)
		found(t, d, "", n, "acme", api.OK)
		mint(t, d, "", n, "acme", api.Admin, n, n, api.OK)
		mint(t, d, "acme", n, "acme", api.Reader, most/2, 1, api.OK)
		publish(t, d, "acme", n, "x", 1, "", api.OK)
		yank(t, d, "acme", n, "x", 1, false, api.OK)
		yank(t, d, "acme", n, "x", 1, true, api.OK)
		grant(t, d, "acme", n, "x", "b", api.OK)
		revoke(t, d, "acme", n, "acme", most/2, api.OK)
		mint(t, d, "", n, "acme", api.Admin, most-2, 100, api.OK)
		revoke(t, d, "", n, "acme", n, api.OK)
		want := strings.ReplaceAll("N:mint N 3 N;N:mint 4611686018427387903 1 1;N:publish x 1;N:yank x 1;N:back x 1;N:grant x b;N:revoke 4611686018427387903;N:mint 9223372036854775805 3 100;N:revoke N;", "N", fmt.Sprint(n))
		logged(t, d, "acme", most-2, want)
	}
}

// full makes a depot as furnished does; of acme's tokens, 4 has ended and 5
// was revoked, and acme has room for no more tokens, versions or grants.
func full(t *testing.T) *depot.Depot {
	t.Helper()
	d := furnished(t)
	mint(t, d, "", 7, "acme", api.Admin, 4, 1, api.OK)
	mint(t, d, "", 7, "acme", api.Admin, 5, 100, api.OK)
	revoke(t, d, "", 7, "acme", 5, api.OK)
	tick(t, d, 1, api.OK)
	for fresh := 6; fresh <= api.MaxTokens; fresh++ {
		mint(t, d, "", 7, "acme", api.Reader, fresh, 100, api.OK)
	}
	for i := range api.MaxOwn {
		publish(t, d, "acme", 2, []string{"x", "y"}[i/9], 1+i%9, "", api.OK)
	}
	for i := range api.MaxGrants {
		grant(t, d, "acme", 3, "x", string(rune('a'+i)), api.OK)
	}
	return d
}

// Each way in which a call can be refused, and none lays a line.
func TestP15NoLineOfRefused(t *testing.T) {
	d := full(t)
	before, _ := d.Log("acme", 3)
	for _, c := range []struct {
		house string
		id    int
		e     api.Errno
	}{{"acme", 4, api.ErrToken}, {"acme", 5, api.ErrToken}, {"acme", 9, api.ErrToken}, {"", 8, api.ErrToken}, {"zzz", 3, api.ErrToken}, {"acme", 1, api.ErrRole}} {
		mint(t, d, c.house, c.id, "acme", api.Reader, 9, 100, c.e)
		revoke(t, d, c.house, c.id, "acme", 2, c.e)
		publish(t, d, c.house, c.id, "z", 1, "", c.e)
		yank(t, d, c.house, c.id, "x", 1, false, c.e)
		yank(t, d, c.house, c.id, "x", 1, true, c.e)
		grant(t, d, c.house, c.id, "x", "beta", c.e)
	}
	mint(t, d, "acme", 2, "acme", api.Reader, 9, 100, api.ErrRole)
	mint(t, d, "acme", 3, "beta", api.Reader, 9, 100, api.ErrRole)
	mint(t, d, "beta", 3, "acme", api.Reader, 9, 100, api.ErrRole)
	mint(t, d, "", 7, "zzz", api.Reader, 9, 100, api.ErrMissing)
	mint(t, d, "acme", 3, "acme", 0, 9, 100, api.ErrArg)
	mint(t, d, "acme", 3, "acme", api.Reader, 0, 100, api.ErrArg)
	mint(t, d, "acme", 3, "acme", api.Reader, 9, 0, api.ErrArg)
	mint(t, d, "acme", 3, "acme", api.Reader, 5, 100, api.ErrTaken)
	mint(t, d, "", 7, "acme", api.Reader, 9, 100, api.ErrRoom)
	revoke(t, d, "beta", 3, "acme", 2, api.ErrRole)
	revoke(t, d, "", 7, "zzz", 2, api.ErrMissing)
	revoke(t, d, "acme", 3, "acme", 5, api.ErrMissing)
	revoke(t, d, "", 7, "acme", 9, api.ErrMissing)
	publish(t, d, "", 7, "z", 1, "", api.ErrRole)
	publish(t, d, "acme", 2, "Z", 1, "", api.ErrName)
	publish(t, d, "acme", 2, "z", 10, "", api.ErrArg)
	publish(t, d, "acme", 2, "z", 1, "?", api.ErrDeps)
	publish(t, d, "acme", 2, "x", 1, "", api.ErrTaken)
	publish(t, d, "acme", 2, "z", 1, "", api.ErrRoom)
	for _, back := range []bool{false, true} {
		yank(t, d, "", 7, "x", 1, back, api.ErrRole)
		yank(t, d, "acme", 2, "X", 1, back, api.ErrName)
		yank(t, d, "acme", 2, "z", 1, back, api.ErrMissing)
		yank(t, d, "acme", 2, "x", 0, back, api.ErrMissing)
	}
	grant(t, d, "acme", 2, "x", "beta", api.ErrRole)
	grant(t, d, "", 7, "x", "beta", api.ErrRole)
	grant(t, d, "acme", 3, "X", "beta", api.ErrName)
	grant(t, d, "acme", 3, "x", "acme/x", api.ErrName)
	grant(t, d, "acme", 3, "z", "beta", api.ErrMissing)
	grant(t, d, "acme", 3, "x", "a", api.ErrTaken)
	grant(t, d, "acme", 3, "x", "beta", api.ErrRoom)
	logged(t, d, "acme", 3, before)
	logged(t, d, "beta", 3, furnishing)
	if !reflect.DeepEqual(d, full(t)) {
		t.Error("calls that were refused have changed the depot")
	}
}

// Of all other calls there is no line, though they are answered OK.
func TestP15NoLineOfOthers(t *testing.T) {
	d := furnished(t)
	publish(t, d, "acme", 2, "x", 1, "", api.OK)
	log := furnishing + "2:publish x 1;"
	feed(t, d, "y", 1, "", api.OK)
	feed(t, d, "acme/x", 1, "", api.OK)
	tick(t, d, 3, api.OK)
	clock(t, d, 3)
	may(t, d, "acme", 3, api.Admin)
	may(t, d, "", 7, api.Root)
	show(t, d, "acme", 3, "acme/x", "acme:1")
	fits(t, d, "acme", 3, "acme/x 1-1,y 1-1", "acme/x@1#acme;y@1#public;", 2)
	noFit(t, d, "acme", 3, "y 2-2", 0)
	logged(t, d, "acme", 3, log)
	logged(t, d, "acme", 3, log)
	for _, house := range []string{"a", "b", "c", "d"} {
		found(t, d, "", 7, house, api.OK)
		logged(t, d, "acme", 3, log)
		logged(t, d, "beta", 3, furnishing)
	}
	mint(t, d, "", 7, "d", api.Admin, 1, 9, api.OK)
	logged(t, d, "d", 1, "7:mint 1 3 9;")
	logged(t, d, "acme", 3, log)
}

// Whoever holds no role is told so, whatever the role was; only Admins read.
func TestP15FirstErrorFirst(t *testing.T) {
	d := furnished(t)
	for role := api.Reader; role <= api.Admin; role++ {
		mint(t, d, "", 7, "acme", role, 3+role, 1, api.OK)
	}
	mint(t, d, "", 7, "acme", api.Admin, 8, 100, api.OK)
	tick(t, d, 1, api.OK)
	for role := api.Reader; role <= api.Admin; role++ {
		revoke(t, d, "", 7, "beta", role, api.OK)
		notLogged(t, d, "beta", role, api.ErrToken)
		notLogged(t, d, "acme", 3+role, api.ErrToken)
	}
	for _, id := range []int{least, -7, -1, 0, 7, 9, most} {
		notLogged(t, d, "acme", id, api.ErrToken)
	}
	for _, id := range []int{least, -7, 0, 1, 3, 8, most} {
		notLogged(t, d, "", id, api.ErrToken)
		notLogged(t, d, "zzz", id, api.ErrToken)
	}
	for _, text := range oddTexts[1:] {
		notLogged(t, d, text, 3, api.ErrToken)
		notLogged(t, d, text, 7, api.ErrToken)
	}
	notLogged(t, d, "acme", 1, api.ErrRole)
	notLogged(t, d, "acme", 2, api.ErrRole)
	notLogged(t, d, "", 7, api.ErrRole)
	log := furnishing + "7:mint 4 1 1;7:mint 5 2 1;7:mint 6 3 1;7:mint 8 3 100;"
	logged(t, d, "acme", 3, log)
	logged(t, d, "acme", 8, log)
	tick(t, d, 99, api.OK)
	notLogged(t, d, "acme", 2, api.ErrToken)
	notLogged(t, d, "acme", 3, api.ErrToken)
	notLogged(t, d, "", 7, api.ErrRole)
}

// A log has no end; what was read of it before stays as it was.
func TestP15LongLog(t *testing.T) {
	d := furnished(t)
	publish(t, d, "acme", 2, "x", 1, "", api.OK)
	early, _ := d.Log("acme", 3)
	const many = 50000
	for range many {
		yank(t, d, "acme", 2, "x", 1, false, api.OK)
		yank(t, d, "acme", 3, "x", 1, true, api.OK)
	}
	start := furnishing + "2:publish x 1;"
	logged(t, d, "acme", 3, start+strings.Repeat("2:yank x 1;3:back x 1;", many))
	logged(t, d, "beta", 3, furnishing)
	if early != start {
		t.Errorf("what was read early is now %q, want %q", early, start)
	}
}
