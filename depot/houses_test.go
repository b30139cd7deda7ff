package depot_test

import (
	"strings"
	"testing"

	"depot/api"
)

var oddTexts = []string{
	"", "abcde", "A", "aB", "a1", "a/b", "/", "a ", " a", "a\x00", "\xff", "é", "acme/", "acme/x", "x 1-2", strings.Repeat("a", 1<<16),
}

func TestP5EachRole(t *testing.T) {
	d := furnished(t)
	for _, house := range []string{"acme", "beta"} {
		may(t, d, house, 1, api.Reader)
		may(t, d, house, 2, api.Writer)
		may(t, d, house, 3, api.Admin)
	}
	may(t, d, "", 7, api.Root)
}

func TestP5WhoHoldsNothing(t *testing.T) {
	d := furnished(t)
	mint(t, d, "", 7, "acme", api.Reader, 4, 100, api.OK)
	may(t, d, "beta", 4, 0)
	may(t, d, "acme", 7, 0)
	may(t, d, "zzz", 1, 0)
	for _, id := range []int{least, -1, 0, 5, most} {
		may(t, d, "acme", id, 0)
		may(t, d, "", id, 0)
	}
	may(t, d, "", 1, 0)
	for _, text := range oddTexts[1:] {
		may(t, d, text, 1, 0)
		may(t, d, text, 7, 0)
	}
}

func TestP5TheEnd(t *testing.T) {
	d := furnished(t)
	mint(t, d, "", 7, "acme", api.Writer, 4, 10, api.OK)
	tick(t, d, 9, api.OK)
	may(t, d, "acme", 4, api.Writer)
	tick(t, d, 1, api.OK)
	may(t, d, "acme", 4, 0)
	may(t, d, "acme", 2, api.Writer)
	tick(t, d, most, api.OK)
	may(t, d, "acme", 2, 0)
	may(t, d, "", 7, api.Root)
}

func TestP5EndOfTime(t *testing.T) {
	d := furnished(t)
	mint(t, d, "", 7, "acme", api.Reader, 4, api.MaxClock, api.OK)
	mint(t, d, "", 7, "acme", api.Writer, 5, api.MaxClock+1, api.OK)
	mint(t, d, "", 7, "acme", api.Admin, 6, most, api.OK)
	tick(t, d, api.MaxClock-1, api.OK)
	may(t, d, "acme", 4, api.Reader)
	tick(t, d, most, api.OK)
	may(t, d, "acme", 4, 0)
	may(t, d, "acme", 5, api.Writer)
	may(t, d, "acme", 6, api.Admin)
}

func TestP6Found(t *testing.T) {
	d := opened(t, 7)
	for _, name := range []string{"a", "z", "ab", "acme", "zzzz"} {
		found(t, d, "", 7, name, api.OK)
		found(t, d, "", 7, name, api.ErrTaken)
		for _, id := range []int{0, 1, 7} {
			may(t, d, name, id, 0)
		}
	}
}

func TestP6NoWord(t *testing.T) {
	d := opened(t, 7)
	for _, name := range oddTexts {
		found(t, d, "", 7, name, api.ErrName)
		mint(t, d, "", 7, name, api.Admin, 1, 100, api.ErrMissing)
	}
}

func TestP6Room(t *testing.T) {
	d := opened(t, 7)
	for _, name := range []string{"a", "b", "c", "d", "e"} {
		found(t, d, "", 7, name, api.OK)
	}
	found(t, d, "", 7, "f", api.OK)
	found(t, d, "", 7, "g", api.ErrRoom)
	mint(t, d, "", 7, "g", api.Admin, 1, 100, api.ErrMissing)
	mint(t, d, "", 7, "f", api.Admin, 1, 100, api.OK)
}

func TestP6FirstErrorFirst(t *testing.T) {
	d := furnished(t)
	mint(t, d, "", 7, "acme", api.Admin, 4, 1, api.OK)
	mint(t, d, "", 7, "acme", api.Admin, 5, 100, api.OK)
	revoke(t, d, "", 7, "acme", 5, api.OK)
	tick(t, d, 1, api.OK)
	for _, name := range []string{"c", "d", "e", "f"} {
		found(t, d, "", 7, name, api.OK)
	}
	// No room is left, so that ErrRoom applies to each of these names.
	for _, name := range []string{"", "ABC", "acme", "g"} {
		found(t, d, "", 8, name, api.ErrToken)
		found(t, d, "zzz", 1, name, api.ErrToken)
		found(t, d, "acme", 4, name, api.ErrToken)
		found(t, d, "acme", 5, name, api.ErrToken)
		found(t, d, "acme", 1, name, api.ErrRole)
		found(t, d, "acme", 2, name, api.ErrRole)
		found(t, d, "acme", 3, name, api.ErrRole)
	}
	found(t, d, "", 7, "", api.ErrName)
	found(t, d, "", 7, "ABC", api.ErrName)
	found(t, d, "", 7, "acme", api.ErrTaken)
	found(t, d, "", 7, "g", api.ErrRoom)
}

func TestP7WhoMints(t *testing.T) {
	d := furnished(t)
	mint(t, d, "", 7, "acme", api.Admin, 4, 100, api.OK)
	mint(t, d, "acme", 3, "acme", api.Reader, 5, 100, api.OK)
	mint(t, d, "acme", 4, "acme", api.Admin, 6, 100, api.OK)
	mint(t, d, "acme", 6, "acme", api.Writer, 7, 100, api.OK)
	may(t, d, "acme", 5, api.Reader)
	may(t, d, "acme", 6, api.Admin)
	may(t, d, "acme", 7, api.Writer)
	may(t, d, "beta", 5, 0)
	mint(t, d, "acme", 1, "acme", api.Reader, 8, 100, api.ErrRole)
	mint(t, d, "acme", 2, "acme", api.Reader, 8, 100, api.ErrRole)
	for _, of := range append([]string{"beta", "zzz"}, oddTexts...) {
		for id := 1; id <= 3; id++ {
			mint(t, d, "acme", id, of, api.Reader, 8, 100, api.ErrRole)
		}
	}
	mint(t, d, "acme", 8, "acme", api.Reader, 8, 100, api.ErrToken)
	may(t, d, "acme", 8, 0)
	may(t, d, "beta", 8, 0)
}

func TestP7WrongNumbers(t *testing.T) {
	d := furnished(t)
	for _, n := range []int{least, -1, 0} {
		mint(t, d, "", 7, "acme", n, 4, 100, api.ErrArg)
		mint(t, d, "", 7, "acme", api.Reader, n, 100, api.ErrArg)
		mint(t, d, "acme", 3, "acme", api.Reader, 4, n, api.ErrArg)
		may(t, d, "acme", n, 0)
	}
	for _, n := range []int{api.Root, 5, most} {
		mint(t, d, "", 7, "acme", n, 4, 100, api.ErrArg)
	}
	may(t, d, "acme", 4, 0)
	mint(t, d, "", 7, "acme", api.Reader, most, most, api.OK)
	may(t, d, "acme", most, api.Reader)
}

func TestP7UntilMayBeOver(t *testing.T) {
	d := furnished(t)
	tick(t, d, 50, api.OK)
	mint(t, d, "acme", 3, "acme", api.Reader, 4, 1, api.OK)
	mint(t, d, "acme", 3, "acme", api.Reader, 5, 50, api.OK)
	mint(t, d, "acme", 3, "acme", api.Reader, 6, 51, api.OK)
	may(t, d, "acme", 4, 0)
	may(t, d, "acme", 5, 0)
	may(t, d, "acme", 6, api.Reader)
	mint(t, d, "acme", 3, "acme", api.Admin, 4, 100, api.ErrTaken)
	may(t, d, "acme", 4, 0)
}

func TestP7Taken(t *testing.T) {
	d := furnished(t)
	mint(t, d, "acme", 3, "acme", api.Admin, 1, 200, api.ErrTaken)
	may(t, d, "acme", 1, api.Reader)
	revoke(t, d, "acme", 3, "acme", 1, api.OK)
	mint(t, d, "acme", 3, "acme", api.Admin, 1, 200, api.ErrTaken)
	may(t, d, "acme", 1, 0)
	tick(t, d, 100, api.OK)
	mint(t, d, "", 7, "acme", api.Admin, 2, 200, api.ErrTaken)
	may(t, d, "acme", 2, 0)
	// Numbers are a house's own: root's number is free, and so is beta's.
	mint(t, d, "", 7, "acme", api.Writer, 7, 200, api.OK)
	mint(t, d, "", 7, "beta", api.Reader, 7, 200, api.OK)
	may(t, d, "acme", 7, api.Writer)
	may(t, d, "beta", 7, api.Reader)
	may(t, d, "", 7, api.Root)
}

func TestP7Room(t *testing.T) {
	d := furnished(t)
	mint(t, d, "", 7, "acme", api.Reader, 4, 1, api.OK)
	mint(t, d, "", 7, "acme", api.Reader, 5, 100, api.OK)
	revoke(t, d, "", 7, "acme", 5, api.OK)
	tick(t, d, 1, api.OK)
	for fresh := 6; fresh <= api.MaxTokens; fresh++ {
		mint(t, d, "", 7, "acme", api.Reader, fresh, 100, api.OK)
	}
	mint(t, d, "", 7, "acme", api.Reader, 9, 100, api.ErrRoom)
	mint(t, d, "acme", 3, "acme", api.Reader, 9, 100, api.ErrRoom)
	may(t, d, "acme", 9, 0)
	mint(t, d, "", 7, "beta", api.Reader, 9, 100, api.OK)
}

func TestP7FirstErrorFirst(t *testing.T) {
	d := furnished(t)
	for fresh := 4; fresh <= api.MaxTokens; fresh++ {
		mint(t, d, "", 7, "acme", api.Reader, fresh, 100, api.OK)
	}
	// acme is full, so that ErrRoom applies wherever acme is the house of.
	for _, of := range []string{"zzz", "", "acme"} {
		for _, fresh := range []int{0, 1, 9} {
			mint(t, d, "", 8, of, 0, fresh, 0, api.ErrToken)
			mint(t, d, "acme", 9, of, 1, fresh, 1, api.ErrToken)
			mint(t, d, "acme", 2, of, 0, fresh, 0, api.ErrRole)
			mint(t, d, "beta", 3, of, 1, fresh, 1, api.ErrRole)
		}
	}
	mint(t, d, "", 7, "zzz", 0, 0, 0, api.ErrMissing)
	mint(t, d, "", 7, "zzz", 1, 1, 1, api.ErrMissing)
	mint(t, d, "", 7, "acme", 0, 1, 1, api.ErrArg)
	mint(t, d, "", 7, "acme", 4, 9, 1, api.ErrArg)
	mint(t, d, "", 7, "acme", 1, 0, 1, api.ErrArg)
	mint(t, d, "", 7, "acme", 1, 1, 0, api.ErrArg)
	mint(t, d, "", 7, "acme", 1, 9, 0, api.ErrArg)
	mint(t, d, "", 7, "acme", 1, 1, 1, api.ErrTaken)
	mint(t, d, "", 7, "acme", 1, 9, 1, api.ErrRoom)
}

func TestP8WhoRevokes(t *testing.T) {
	d := furnished(t)
	revoke(t, d, "acme", 1, "acme", 2, api.ErrRole)
	revoke(t, d, "acme", 2, "acme", 1, api.ErrRole)
	for _, of := range append([]string{"beta", "zzz"}, oddTexts...) {
		for id := 1; id <= 3; id++ {
			revoke(t, d, "acme", id, of, 1, api.ErrRole)
		}
	}
	may(t, d, "beta", 1, api.Reader)
	revoke(t, d, "acme", 3, "acme", 1, api.OK)
	may(t, d, "acme", 1, 0)
	may(t, d, "beta", 1, api.Reader)
	revoke(t, d, "", 7, "beta", 1, api.OK)
	may(t, d, "beta", 1, 0)
}

func TestP8Missing(t *testing.T) {
	d := furnished(t)
	for _, old := range []int{least, -1, 0, 4, 7, most} {
		revoke(t, d, "acme", 3, "acme", old, api.ErrMissing)
		revoke(t, d, "", 7, "acme", old, api.ErrMissing)
	}
	for _, of := range append([]string{"zzz"}, oddTexts...) {
		revoke(t, d, "", 7, of, 1, api.ErrMissing)
		revoke(t, d, "", 7, of, 7, api.ErrMissing)
	}
	revoke(t, d, "acme", 3, "acme", 1, api.OK)
	revoke(t, d, "acme", 3, "acme", 1, api.ErrMissing)
	revoke(t, d, "", 7, "acme", 1, api.ErrMissing)
	may(t, d, "", 7, api.Root)
}

func TestP8EndedAndOwn(t *testing.T) {
	d := furnished(t)
	mint(t, d, "", 7, "acme", api.Reader, 4, 10, api.OK)
	tick(t, d, 10, api.OK)
	may(t, d, "acme", 4, 0)
	revoke(t, d, "acme", 3, "acme", 4, api.OK)
	revoke(t, d, "acme", 3, "acme", 4, api.ErrMissing)
	revoke(t, d, "acme", 3, "acme", 3, api.OK)
	may(t, d, "acme", 3, 0)
	revoke(t, d, "acme", 3, "acme", 3, api.ErrToken)
	revoke(t, d, "acme", 3, "acme", 2, api.ErrToken)
	may(t, d, "acme", 2, api.Writer)
}

func TestP8FirstErrorFirst(t *testing.T) {
	d := furnished(t)
	revoke(t, d, "", 7, "acme", 1, api.OK)
	for _, of := range []string{"zzz", "", "acme"} {
		for _, old := range []int{0, 1, 9} {
			revoke(t, d, "", 8, of, old, api.ErrToken)
			revoke(t, d, "acme", 1, of, old, api.ErrToken)
			revoke(t, d, "zzz", 1, of, old, api.ErrToken)
			revoke(t, d, "acme", 2, of, old, api.ErrRole)
			revoke(t, d, "beta", 3, of, old, api.ErrRole)
		}
	}
}

// The first two examples of the document.
func TestExamples(t *testing.T) {
	d := opened(t, 7)
	found(t, d, "", 7, "acme", api.OK)
	found(t, d, "", 7, "acme", api.ErrTaken)
	found(t, d, "", 8, "b", api.ErrToken)
	mint(t, d, "", 7, "acme", 3, 1, 100, api.OK)
	may(t, d, "acme", 1, 3)
	may(t, d, "", 7, 4)
	may(t, d, "acme", 7, 0)

	mint(t, d, "acme", 1, "acme", 1, 2, 10, api.OK)
	may(t, d, "acme", 2, 1)
	tick(t, d, 10, api.OK)
	may(t, d, "acme", 2, 0)
	mint(t, d, "acme", 1, "beta", 1, 2, 10, api.ErrRole)
	found(t, d, "", 7, "beta", api.OK)
	mint(t, d, "acme", 1, "beta", 1, 2, 10, api.ErrRole)
}
