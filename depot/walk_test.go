package depot_test

import (
	"math/rand"
	"reflect"
	"testing"

	"depot/api"
	"depot/depot"
)

const (
	callTick = iota
	callClock
	callMay
	callFound
	callMint
	callRevoke
	callKinds
)

// call is one call: text is name or of; a, b, c are the numbers behind it.
type call struct {
	kind    int
	house   string
	id      int
	text    string
	a, b, c int
}

type answer struct {
	n int
	e api.Errno
}

func do(d *depot.Depot, c call) answer {
	switch c.kind {
	case callTick:
		return answer{0, d.Tick(c.a)}
	case callClock:
		return answer{d.Clock(), api.OK}
	case callMay:
		n, e := d.May(c.house, c.id)
		return answer{n, e}
	case callFound:
		return answer{0, d.Found(c.house, c.id, c.text)}
	case callMint:
		return answer{0, d.Mint(c.house, c.id, c.text, c.a, c.b, c.c)}
	}
	return answer{0, d.Revoke(c.house, c.id, c.text, c.a)}
}

func pick(r *rand.Rand, numbers ...int) int { return numbers[r.Intn(len(numbers))] }

func pickHouse(r *rand.Rand) string {
	if r.Intn(12) == 0 {
		return oddTexts[r.Intn(len(oddTexts))]
	}
	names := []string{"acme", "acme", "acme", "beta", "beta", "a", "b", "c", "zzzz", "q"}
	return names[r.Intn(len(names))]
}

func pickNumber(r *rand.Rand) int {
	if r.Intn(12) == 0 {
		return pick(r, least, least+1, -1, 0, most-1, most)
	}
	return 1 + r.Intn(10)
}

func pickCall(r *rand.Rand) call {
	c := call{kind: r.Intn(callKinds), house: pickHouse(r), id: pickNumber(r), text: pickHouse(r), a: pickNumber(r)}
	// Without these two, nearly all calls would be answered ErrToken or ErrRole.
	switch r.Intn(3) {
	case 0:
		c.house, c.id = "", 7
	case 1:
		c.text = c.house
	}
	switch c.kind {
	case callTick:
		c.a = pick(r, 0, 1, 1, 2, -1, least)
		if r.Intn(200) == 0 {
			c.a = pick(r, most, api.MaxClock, api.MaxClock-1)
		}
	case callMint:
		c.b, c.a = c.a, pick(r, 1, 1, 2, 2, 3, 3, 3, 3, 3, 3, 0, 4, least, most)
		c.c = pick(r, 1, 5, 20, 100, 100, 100, api.MaxClock, api.MaxClock+1, most, 0, least)
	}
	return c
}

// Long walks of calls, right and wrong ones. Of two more depots, one gets all
// the calls, for it must answer alike (P2), and one only those that were
// answered OK, for the others must have changed nothing (P1).
func TestP1P2Walks(t *testing.T) {
	var seen [callKinds][11]int
	for seed := int64(0); seed < 100; seed++ {
		r := rand.New(rand.NewSource(seed))
		m := newModel(7)
		d, again, good := opened(t, 7), opened(t, 7), opened(t, 7)
		for step := 0; step < 1500; step++ {
			c := pickCall(r)
			want := m.answer(c)
			got := do(d, c)
			if got != want {
				t.Fatalf("seed %d, step %d: %+v = %v, want %v", seed, step, c, got, want)
			}
			if a := do(again, c); a != got {
				t.Fatalf("seed %d, step %d: %+v = %v, on another depot %v", seed, step, c, got, a)
			}
			if got.e == api.OK {
				do(good, c)
			}
			if !reflect.DeepEqual(d, good) {
				t.Fatalf("seed %d, step %d: %+v = %v has changed the depot", seed, step, c, got)
			}
			seen[c.kind][got.e]++
		}
	}
	checkSeen(t, seen)
}

// checkSeen sees to it that the walks met every answer that a call can give.
func checkSeen(t *testing.T, seen [callKinds][11]int) {
	t.Helper()
	answers := [callKinds][]api.Errno{
		callTick:   {api.OK, api.ErrArg},
		callClock:  {api.OK},
		callMay:    {api.OK, api.ErrToken},
		callFound:  {api.OK, api.ErrToken, api.ErrRole, api.ErrName, api.ErrTaken, api.ErrRoom},
		callMint:   {api.OK, api.ErrToken, api.ErrRole, api.ErrMissing, api.ErrArg, api.ErrTaken, api.ErrRoom},
		callRevoke: {api.OK, api.ErrToken, api.ErrRole, api.ErrMissing},
	}
	for kind, errnos := range answers {
		for _, e := range errnos {
			if seen[kind][e] == 0 {
				t.Errorf("no call of kind %d was answered %d", kind, e)
			}
		}
	}
}

// What is done on one depot is not to be seen on another.
func TestP2DepotsApart(t *testing.T) {
	one, other := furnished(t), furnished(t)
	tick(t, one, 60, api.OK)
	revoke(t, one, "acme", 3, "acme", 1, api.OK)
	mint(t, one, "acme", 3, "acme", api.Writer, 9, 100, api.OK)
	found(t, one, "", 7, "c", api.OK)
	clock(t, other, 0)
	may(t, other, "acme", 1, api.Reader)
	may(t, other, "acme", 9, 0)
	found(t, other, "", 7, "c", api.OK)
	third := opened(t, 8)
	may(t, third, "", 7, 0)
	may(t, one, "", 8, 0)
	may(t, third, "acme", 3, 0)
}

// Asking changes nothing, and is answered alike each time.
func TestP2AskedAgain(t *testing.T) {
	d := furnished(t)
	for i := 0; i < 3; i++ {
		clock(t, d, 0)
		may(t, d, "acme", 1, api.Reader)
		may(t, d, "acme", 9, 0)
	}
	if !reflect.DeepEqual(d, furnished(t)) {
		t.Error("asking has changed the depot")
	}
}
