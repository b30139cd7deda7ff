package depot_test

import (
	"testing"

	"depot/api"
	"depot/depot"
)

func TestP3RootBelowOne(t *testing.T) {
	for _, root := range []int{0, -1, -7, least} {
		if d, e := depot.New(root); d != nil || e != api.ErrArg {
			t.Errorf("New(%d) = %v, %d, want nil, ErrArg", root, d, e)
		}
	}
}

func TestP3NewDepot(t *testing.T) {
	for _, root := range []int{1, 7, most} {
		d := opened(t, root)
		clock(t, d, 0)
		may(t, d, "", root, api.Root)
		may(t, d, "", root-1, 0)
		may(t, d, "", -root, 0)
		may(t, d, "", 0, 0)
		may(t, d, "acme", root, 0)
		mint(t, d, "", root, "acme", api.Admin, 1, 100, api.ErrMissing)
		for _, name := range []string{"a", "b", "c", "d", "e", "f"} {
			found(t, d, "", root, name, api.OK)
		}
	}
}

func TestP4TimeGoesOn(t *testing.T) {
	d := opened(t, 7)
	for _, c := range []struct {
		n     int
		want  api.Errno
		clock int
	}{
		{0, api.OK, 0}, {1, api.OK, 1}, {41, api.OK, 42}, {0, api.OK, 42},
		{-1, api.ErrArg, 42}, {-42, api.ErrArg, 42}, {least, api.ErrArg, 42},
		{1, api.OK, 43},
	} {
		tick(t, d, c.n, c.want)
		clock(t, d, c.clock)
	}
}

func TestP4ClockStops(t *testing.T) {
	const max = 1099511627776
	for _, c := range []struct{ first, second, clock int }{
		{0, max - 1, max - 1}, {0, max, max}, {0, max + 1, max}, {0, most, max},
		{5, most, max}, {5, most - 4, max}, {max - 1, 0, max - 1}, {max - 1, 1, max},
		{max - 1, 2, max}, {max - 1, most, max}, {max, 0, max}, {max, 1, max}, {max, most, max},
	} {
		d := opened(t, 7)
		tick(t, d, c.first, api.OK)
		tick(t, d, c.second, api.OK)
		clock(t, d, c.clock)
		tick(t, d, -1, api.ErrArg)
		clock(t, d, c.clock)
	}
}
