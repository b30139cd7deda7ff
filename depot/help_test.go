package depot_test

import (
	"testing"

	"depot/api"
	"depot/depot"
)

const least, most = -1 << 63, 1<<63 - 1

// opened makes a depot with the root number root.
func opened(t *testing.T, root int) *depot.Depot {
	t.Helper()
	d, e := depot.New(root)
	if d == nil || e != api.OK {
		t.Fatalf("New(%d) = %v, %d, want a depot", root, d, e)
	}
	return d
}

// furnished makes a depot with the root number 7 and the houses acme and beta.
// Of each, the tokens 1, 2 and 3 are Reader, Writer and Admin, till 100.
func furnished(t *testing.T) *depot.Depot {
	t.Helper()
	d := opened(t, 7)
	for _, house := range []string{"acme", "beta"} {
		found(t, d, "", 7, house, api.OK)
		for role := api.Reader; role <= api.Admin; role++ {
			mint(t, d, "", 7, house, role, role, 100, api.OK)
		}
	}
	return d
}

// furnishing is the log of each house of furnished.
const furnishing = "7:mint 1 1 100;7:mint 2 2 100;7:mint 3 3 100;"

func tick(t *testing.T, d *depot.Depot, n int, want api.Errno) {
	t.Helper()
	if e := d.Tick(n); e != want {
		t.Errorf("Tick(%d) = %d, want %d", n, e, want)
	}
}

func clock(t *testing.T, d *depot.Depot, want int) {
	t.Helper()
	if n := d.Clock(); n != want {
		t.Errorf("Clock() = %d, want %d", n, want)
	}
}

// may asks for a role; 0 stands for ErrToken.
func may(t *testing.T, d *depot.Depot, house string, id int, want int) {
	t.Helper()
	wantErrno := api.OK
	if want == 0 {
		wantErrno = api.ErrToken
	}
	role, e := d.May(house, id)
	if role != want || e != wantErrno {
		t.Errorf("May(%q, %d) = %d, %d, want %d, %d", house, id, role, e, want, wantErrno)
	}
}

func found(t *testing.T, d *depot.Depot, house string, id int, name string, want api.Errno) {
	t.Helper()
	if e := d.Found(house, id, name); e != want {
		t.Errorf("Found(%q, %d, %q) = %d, want %d", house, id, name, e, want)
	}
}

func mint(t *testing.T, d *depot.Depot, house string, id int, of string, role, fresh, until int, want api.Errno) {
	t.Helper()
	if e := d.Mint(house, id, of, role, fresh, until); e != want {
		t.Errorf("Mint(%q, %d, %q, %d, %d, %d) = %d, want %d", house, id, of, role, fresh, until, e, want)
	}
}

func revoke(t *testing.T, d *depot.Depot, house string, id int, of string, old int, want api.Errno) {
	t.Helper()
	if e := d.Revoke(house, id, of, old); e != want {
		t.Errorf("Revoke(%q, %d, %q, %d) = %d, want %d", house, id, of, old, e, want)
	}
}

func feed(t *testing.T, d *depot.Depot, name string, version int, wants string, want api.Errno) {
	t.Helper()
	if e := d.Feed(name, version, wants); e != want {
		t.Errorf("Feed(%q, %d, %q) = %d, want %d", name, version, wants, e, want)
	}
}

func publish(t *testing.T, d *depot.Depot, house string, id int, pack string, version int, wants string, want api.Errno) {
	t.Helper()
	if e := d.Publish(house, id, pack, version, wants); e != want {
		t.Errorf("Publish(%q, %d, %q, %d, %q) = %d, want %d", house, id, pack, version, wants, e, want)
	}
}

func yank(t *testing.T, d *depot.Depot, house string, id int, pack string, version int, back bool, want api.Errno) {
	t.Helper()
	if e := d.Yank(house, id, pack, version, back); e != want {
		t.Errorf("Yank(%q, %d, %q, %d, %v) = %d, want %d", house, id, pack, version, back, e, want)
	}
}

func grant(t *testing.T, d *depot.Depot, house string, id int, pack, to string, want api.Errno) {
	t.Helper()
	if e := d.Grant(house, id, pack, to); e != want {
		t.Errorf("Grant(%q, %d, %q, %q) = %d, want %d", house, id, pack, to, e, want)
	}
}

// show asks what a holder is shown; the empty text stands for ErrMissing.
func show(t *testing.T, d *depot.Depot, house string, id int, name string, want string) {
	t.Helper()
	wantErrno := api.OK
	if want == "" {
		wantErrno = api.ErrMissing
	}
	text, e := d.Show(house, id, name)
	if text != want || e != wantErrno {
		t.Errorf("Show(%q, %d, %q) = %q, %d, want %q, %d", house, id, name, text, e, want, wantErrno)
	}
}

// noShow asks to be shown a name and is refused.
func noShow(t *testing.T, d *depot.Depot, house string, id int, name string, want api.Errno) {
	t.Helper()
	text, e := d.Show(house, id, name)
	if text != "" || e != want {
		t.Errorf("Show(%q, %d, %q) = %q, %d, want nothing, %d", house, id, name, text, e, want)
	}
}

func resolve(t *testing.T, d *depot.Depot, house string, id int, wants string, budget int, want string, steps int, wantErrno api.Errno) {
	t.Helper()
	text, n, e := d.Resolve(house, id, wants, budget)
	if text != want || n != steps || e != wantErrno {
		t.Errorf("Resolve(%q, %d, %q, %d) = %q, %d, %d, want %q, %d, %d", house, id, wants, budget, text, n, e, want, steps, wantErrno)
	}
}

// resolveOf asks with budgets of all kinds: those of at least the steps that
// it takes are answered with these, all others with ErrBudget.
func resolveOf(t *testing.T, d *depot.Depot, house string, id int, wants string, want string, steps int, wantErrno api.Errno) {
	t.Helper()
	for _, budget := range []int{steps, steps + 1, steps + 100, api.MaxBudget - 1, api.MaxBudget} {
		if budget >= steps && budget <= api.MaxBudget {
			resolve(t, d, house, id, wants, budget, want, steps, wantErrno)
		}
	}
	for _, budget := range []int{0, 1, 2, 3, steps / 2, steps - 2, steps - 1} {
		if budget >= 0 && budget < steps {
			resolve(t, d, house, id, wants, budget, "", budget, api.ErrBudget)
		}
	}
}

// fits asks for what goes together, and how many steps it takes.
func fits(t *testing.T, d *depot.Depot, house string, id int, wants string, want string, steps int) {
	t.Helper()
	resolveOf(t, d, house, id, wants, want, steps, api.OK)
}

// noFit asks for what does not go together, and how many steps it takes.
func noFit(t *testing.T, d *depot.Depot, house string, id int, wants string, steps int) {
	t.Helper()
	resolveOf(t, d, house, id, wants, "", steps, api.ErrNone)
}

// logged asks for a log, and for its sum.
func logged(t *testing.T, d *depot.Depot, house string, id int, want string) {
	t.Helper()
	if text, e := d.Log(house, id); text != want || e != api.OK {
		t.Errorf("Log(%q, %d) = %q, %d, want %q", house, id, text, e, want)
	}
	if sum, e := d.Head(house, id); sum != sumOf(want) || e != api.OK {
		t.Errorf("Head(%q, %d) = %d, %d, want %d", house, id, sum, e, sumOf(want))
	}
}

// notLogged asks for a log and for its sum, and is refused.
func notLogged(t *testing.T, d *depot.Depot, house string, id int, want api.Errno) {
	t.Helper()
	if text, e := d.Log(house, id); text != "" || e != want {
		t.Errorf("Log(%q, %d) = %q, %d, want nothing, %d", house, id, text, e, want)
	}
	if sum, e := d.Head(house, id); sum != 0 || e != want {
		t.Errorf("Head(%q, %d) = %d, %d, want 0, %d", house, id, sum, e, want)
	}
}
