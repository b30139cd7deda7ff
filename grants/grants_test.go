package grants

import (
	"reflect"
	"testing"

	"depot/api"
)

func add(t *testing.T, b *Book, pack, to string, want api.Errno) {
	t.Helper()
	if e := b.Add(pack, to); e != want {
		t.Errorf("Add(%q, %q) = %d, want %d", pack, to, e, want)
	}
}

func has(t *testing.T, b *Book, pack, to string, want bool) {
	t.Helper()
	if b.Has(pack, to) != want {
		t.Errorf("Has(%q, %q) = %v, want %v", pack, to, !want, want)
	}
}

func TestGrants(t *testing.T) {
	b := &Book{}
	has(t, b, "x", "beta", false)
	has(t, b, "", "", false)
	add(t, b, "x", "beta", api.OK)
	has(t, b, "x", "beta", true)
	has(t, b, "beta", "x", false)
	has(t, b, "x", "c", false)
	has(t, b, "y", "beta", false)
	has(t, b, "xb", "eta", false)
	has(t, b, "x", "", false)
	has(t, b, "", "beta", false)
	add(t, b, "x", "c", api.OK)
	add(t, b, "y", "beta", api.OK)
	has(t, b, "y", "c", false)
}

func TestTakenAndRoom(t *testing.T) {
	b, want := &Book{}, &Book{}
	for _, to := range []string{"a", "b", "c", "d", "e", "f"} {
		add(t, b, "x", to, api.OK)
		add(t, b, "x", to, api.ErrTaken)
		add(t, want, "x", to, api.OK)
	}
	add(t, b, "x", "g", api.ErrRoom)
	add(t, b, "y", "a", api.ErrRoom)
	add(t, b, "x", "f", api.ErrTaken)
	has(t, b, "x", "g", false)
	if !reflect.DeepEqual(b, want) {
		t.Errorf("refused calls changed the book: %v, want %v", b, want)
	}
}
