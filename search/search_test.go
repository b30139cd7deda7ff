package search

import (
	"fmt"
	"reflect"
	"testing"

	"depot/api"
	"depot/wants"
)

const least, most = -1 << 63, 1<<63 - 1

// parsed gives the wants of a text.
func parsed(t *testing.T, text string) []wants.Want {
	t.Helper()
	list, ok := wants.Parse(text)
	if !ok {
		t.Fatalf("%q are no wants", text)
	}
	return list
}

// offered is a version of a name, as it is offered to a search.
type offered struct {
	name    string
	version int
	wants   string
	yanked  bool
}

func offerEach(t *testing.T, s *Search, offers []offered) {
	t.Helper()
	for _, o := range offers {
		s.Offer(o.name, o.version, parsed(t, o.wants), o.yanked)
	}
}

// run makes a new search and runs it.
func run(t *testing.T, offers []offered, asked string, budget int, want string, steps int, e api.Errno) {
	t.Helper()
	s := New(parsed(t, asked))
	offerEach(t, s, offers)
	picks, n, got := s.Run(budget)
	text := ""
	for _, p := range picks {
		text += fmt.Sprintf("%s@%d;", p.Name, p.Version)
	}
	if text != want || n != steps || got != e {
		t.Errorf("a search for %q with the budget %d = %q, %d, %d, want %q, %d, %d", asked, budget, text, n, got, want, steps, e)
	}
}

func TestNothingOffered(t *testing.T) {
	for _, budget := range []int{0, 1, most} {
		run(t, nil, "", budget, "", 0, api.OK)
		run(t, nil, "x 1-9", budget, "", 0, api.ErrNone)
	}
}

// What is not a version that a want can want is no offer.
func TestOddOffers(t *testing.T) {
	for _, version := range []int{least, -1, 0, 10, 11, most} {
		for _, yanked := range []bool{false, true} {
			run(t, []offered{{"x", version, "", yanked}}, "x 1-9", 9, "", 0, api.ErrNone)
		}
	}
	// Wants that no text can tell must not lead astray either.
	for _, odd := range []wants.Want{{Name: "x", From: least, To: most}, {Name: "x", From: 0, To: 10}} {
		s := New([]wants.Want{odd})
		s.Offer("x", 3, nil, false)
		picks, steps, e := s.Run(9)
		if !reflect.DeepEqual(picks, []Pick{{"x", 3}}) || steps != 1 || e != api.OK {
			t.Errorf("a search for %v = %v, %d, %d, want x 3, 1, OK", odd, picks, steps, e)
		}
	}
}

func TestOddBudgets(t *testing.T) {
	for _, budget := range []int{least, -1} {
		run(t, []offered{{"x", 1, "", false}}, "", budget, "", 0, api.OK)
		run(t, []offered{{"x", 1, "", false}}, "x 1-1", budget, "", 0, api.ErrBudget)
	}
	run(t, []offered{{"x", 1, "", false}}, "x 1-1", most, "x@1;", 1, api.OK)
}

func next(t *testing.T, s *Search, want string) {
	t.Helper()
	name, ok := s.Next()
	if name != want || ok != (want != "") {
		t.Errorf("Next() = %q, %v, want %q", name, ok, want)
	}
}

// Each name is told once, as soon as it is wanted.
func TestNext(t *testing.T) {
	s := New(parsed(t, "b 1-1,a 2-3,b 4-9"))
	next(t, s, "b")
	s.Offer("b", 1, parsed(t, "c/c 1-1,a 1-1"), false)
	next(t, s, "a")
	next(t, s, "c/c")
	next(t, s, "")
	s.Offer("a", 2, parsed(t, "b 1-1,d 1-1,d 2-2"), false)
	next(t, s, "d")
	next(t, s, "")
	next(t, s, "")
}

// Of a yanked version that is no offer, what it wants is not wanted.
func TestNextOfYanked(t *testing.T) {
	s := New(parsed(t, "x 3-3"))
	next(t, s, "x")
	s.Offer("x", 2, parsed(t, "y 1-1"), true)
	next(t, s, "")
	s.Offer("x", 3, parsed(t, "z 1-1"), true)
	next(t, s, "z")
	next(t, s, "")
}

func TestYanked(t *testing.T) {
	offers := []offered{{"x", 1, "", false}, {"x", 3, "", true}, {"y", 3, "", true}, {"z", 1, "x 3-3", false}}
	run(t, offers, "x 1-9", 9, "x@1;", 1, api.OK)
	run(t, offers, "x 3-3", 9, "x@3;", 1, api.OK)
	run(t, offers, "x 1-9,x 3-3", 9, "x@3;", 1, api.OK)
	run(t, offers, "x 2-3", 9, "", 0, api.ErrNone)
	run(t, offers, "x 3-4", 9, "", 0, api.ErrNone)
	run(t, offers, "y 2-3,x 3-3", 9, "", 0, api.ErrNone)
	run(t, offers, "x 1-2,x 3-3", 9, "", 1, api.ErrNone)
	run(t, offers, "z 1-1", 9, "", 1, api.ErrNone)
	run(t, offers, "z 1-1,x 3-3", 9, "x@3;z@1;", 2, api.OK)
}

func TestBudget(t *testing.T) {
	offers := []offered{{"y", 1, "", false}, {"y", 2, "", false}, {"z", 1, "y 1-1", false}, {"z", 2, "y 3-4", false}}
	for budget := 0; budget < 6; budget++ {
		run(t, offers, "y 1-2,z 1-2", budget, "", budget, api.ErrBudget)
	}
	run(t, offers, "y 1-2,z 1-2", 6, "y@1;z@1;", 6, api.OK)
	for budget := 0; budget < 3; budget++ {
		run(t, offers, "y 2-2,z 1-2", budget, "", budget, api.ErrBudget)
	}
	run(t, offers, "y 2-2,z 1-2", 3, "", 3, api.ErrNone)
}

func TestPicksByNames(t *testing.T) {
	names := []string{"b", "ab", "aa/z", "a", "a/b", "zzzz"}
	var offers []offered
	asked := ""
	for i, name := range names {
		offers = append(offers, offered{name, i + 1, "", false})
		if i > 0 {
			asked += ","
		}
		asked += name + " 1-9"
	}
	run(t, offers, asked, 6, "a@4;a/b@5;aa/z@3;ab@2;b@1;zzzz@6;", 6, api.OK)
}

// The lists that are handed in are only read.
func TestListsStay(t *testing.T) {
	asked, list := parsed(t, "x 1-9,y 1-9"), parsed(t, "y 1-1,z 1-9")
	s := New(asked)
	s.Offer("x", 1, list, false)
	s.Offer("x", 2, list, false)
	s.Offer("y", 1, nil, false)
	s.Offer("y", 2, nil, false)
	s.Offer("z", 1, list[:1], false)
	if picks, steps, e := s.Run(100); e != api.OK || len(picks) != 3 || steps != 4 {
		t.Errorf("the search = %v, %d, %d, want three names in 4 steps", picks, steps, e)
	}
	if !reflect.DeepEqual(asked, parsed(t, "x 1-9,y 1-9")) || !reflect.DeepEqual(list, parsed(t, "y 1-1,z 1-9")) {
		t.Errorf("the lists became %v and %v", asked, list)
	}
}
