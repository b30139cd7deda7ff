package tokens

import (
	"reflect"
	"testing"

	"depot/api"
)

const least, most = -1 << 63, 1<<63 - 1

func mint(t *testing.T, r *Ring, role, fresh, until int, want api.Errno) {
	t.Helper()
	if e := r.Mint(role, fresh, until); e != want {
		t.Errorf("Mint(%d, %d, %d) = %d, want %d", role, fresh, until, e, want)
	}
}

func revoke(t *testing.T, r *Ring, old int, want api.Errno) {
	t.Helper()
	if e := r.Revoke(old); e != want {
		t.Errorf("Revoke(%d) = %d, want %d", old, e, want)
	}
}

func role(t *testing.T, r *Ring, number, clock, want int) {
	t.Helper()
	if n := r.Role(number, clock); n != want {
		t.Errorf("Role(%d, %d) = %d, want %d", number, clock, n, want)
	}
}

func TestEmptyRing(t *testing.T) {
	r := &Ring{}
	for _, n := range []int{least, -1, 0, 1, most} {
		role(t, r, n, 0, NoRole)
		revoke(t, r, n, api.ErrMissing)
	}
}

func TestRoleAndEnd(t *testing.T) {
	r := &Ring{}
	mint(t, r, api.Reader, 1, 1, api.OK)
	mint(t, r, api.Writer, 2, 10, api.OK)
	mint(t, r, api.Admin, most, most, api.OK)
	role(t, r, 1, 0, api.Reader)
	role(t, r, 1, 1, NoRole)
	role(t, r, 2, 9, api.Writer)
	role(t, r, 2, 10, NoRole)
	role(t, r, 2, 11, NoRole)
	role(t, r, most, api.MaxClock, api.Admin)
	role(t, r, 3, 0, NoRole)
}

func TestWrongNumbers(t *testing.T) {
	r := &Ring{}
	mint(t, r, api.Reader, 5, 10, api.OK)
	for _, n := range []int{least, -1, 0} {
		mint(t, r, n, 6, 10, api.ErrArg)
		mint(t, r, api.Reader, n, 10, api.ErrArg)
		mint(t, r, api.Reader, 6, n, api.ErrArg)
		mint(t, r, api.Reader, 5, n, api.ErrArg)
	}
	for _, n := range []int{api.Root, 5, most} {
		mint(t, r, n, 6, 10, api.ErrArg)
		mint(t, r, n, 5, 10, api.ErrArg)
	}
	want := &Ring{}
	mint(t, want, api.Reader, 5, 10, api.OK)
	if !reflect.DeepEqual(r, want) {
		t.Errorf("refused calls changed the ring: %v, want %v", r, want)
	}
}

func TestTakenStaysTaken(t *testing.T) {
	r := &Ring{}
	mint(t, r, api.Reader, 5, 10, api.OK)
	mint(t, r, api.Admin, 5, 20, api.ErrTaken)
	role(t, r, 5, 9, api.Reader)
	role(t, r, 5, 10, NoRole)
	revoke(t, r, 5, api.OK)
	mint(t, r, api.Admin, 5, 20, api.ErrTaken)
	role(t, r, 5, 9, NoRole)
}

func TestRevokeOnce(t *testing.T) {
	r := &Ring{}
	mint(t, r, api.Reader, 5, 10, api.OK)
	mint(t, r, api.Writer, 6, 10, api.OK)
	revoke(t, r, 7, api.ErrMissing)
	revoke(t, r, 5, api.OK)
	revoke(t, r, 5, api.ErrMissing)
	role(t, r, 5, 0, NoRole)
	role(t, r, 6, 0, api.Writer)
}

func TestRoom(t *testing.T) {
	r := &Ring{}
	for n := 1; n <= api.MaxTokens; n++ {
		mint(t, r, api.Reader, n, 10, api.OK)
	}
	mint(t, r, api.Reader, 9, 10, api.ErrRoom)
	mint(t, r, api.Reader, 8, 10, api.ErrTaken)
	mint(t, r, api.Reader, 9, 0, api.ErrArg)
	revoke(t, r, 1, api.OK)
	mint(t, r, api.Reader, 9, 10, api.ErrRoom)
	role(t, r, 9, 0, NoRole)
	role(t, r, 8, 0, api.Reader)
}
