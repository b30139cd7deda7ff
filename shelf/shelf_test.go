package shelf

import (
	"reflect"
	"testing"

	"depot/api"
	"depot/wants"
)

const least, most = -1 << 63, 1<<63 - 1

func lay(t *testing.T, s *Shelf, label string, version int, text string, want api.Errno) {
	t.Helper()
	if e := s.Lay(label, version, text, 5); e != want {
		t.Errorf("Lay(%q, %d, %q, 5) = %d, want %d", label, version, text, e, want)
	}
}

func yank(t *testing.T, s *Shelf, label string, version int, yanked bool, want api.Errno) {
	t.Helper()
	if e := s.Yank(label, version, yanked); e != want {
		t.Errorf("Yank(%q, %d, %v) = %d, want %d", label, version, yanked, e, want)
	}
}

func tell(t *testing.T, s *Shelf, label string, want string) {
	t.Helper()
	if text := s.Tell(label); text != want {
		t.Errorf("Tell(%q) = %q, want %q", label, text, want)
	}
	if s.Has(label) != (want != "") {
		t.Errorf("Has(%q) = %v, beside the versions %q", label, want == "", want)
	}
}

func TestEmptyShelf(t *testing.T) {
	s := &Shelf{}
	tell(t, s, "x", "")
	tell(t, s, "", "")
	yank(t, s, "x", 1, false, api.ErrMissing)
	yank(t, s, "", 0, true, api.ErrMissing)
}

func TestVersionsInOrder(t *testing.T) {
	s := &Shelf{}
	for _, version := range []int{9, 1, 5} {
		lay(t, s, "x", version, "", api.OK)
	}
	lay(t, s, "xx", 2, "", api.OK)
	lay(t, s, "acme/x", 3, "", api.OK)
	tell(t, s, "x", "1,5,9")
	tell(t, s, "xx", "2")
	tell(t, s, "acme/x", "3")
	tell(t, s, "acme", "")
	tell(t, s, "y", "")
}

func TestEveryVersion(t *testing.T) {
	s := &Shelf{}
	for version := api.MaxVersion; version >= 1; version-- {
		if e := s.Lay("x", version, "", api.MaxVersion); e != api.OK {
			t.Errorf("Lay of version %d = %d, want OK", version, e)
		}
	}
	tell(t, s, "x", "1,2,3,4,5,6,7,8,9")
	for _, version := range []int{1, 4, 9} {
		yank(t, s, "x", version, true, api.OK)
	}
	tell(t, s, "x", "1*,2,3,4*,5,6,7,8,9*")
}

func TestYank(t *testing.T) {
	s := &Shelf{}
	lay(t, s, "x", 1, "", api.OK)
	lay(t, s, "x", 2, "", api.OK)
	lay(t, s, "y", 2, "", api.OK)
	yank(t, s, "x", 2, true, api.OK)
	yank(t, s, "x", 2, true, api.OK)
	tell(t, s, "x", "1,2*")
	tell(t, s, "y", "2")
	yank(t, s, "y", 2, false, api.OK)
	yank(t, s, "x", 1, true, api.OK)
	tell(t, s, "x", "1*,2*")
	yank(t, s, "x", 2, false, api.OK)
	tell(t, s, "x", "1*,2")
	yank(t, s, "y", 1, true, api.ErrMissing)
	for _, version := range []int{least, -1, 0, 3, 10, most} {
		yank(t, s, "x", version, true, api.ErrMissing)
	}
	tell(t, s, "x", "1*,2")
	tell(t, s, "y", "2")
}

// A yanked version stays taken, and so does its room.
func TestYankedStays(t *testing.T) {
	s := &Shelf{}
	for version := 1; version <= 5; version++ {
		lay(t, s, "x", version, "", api.OK)
	}
	yank(t, s, "x", 3, true, api.OK)
	lay(t, s, "x", 3, "", api.ErrTaken)
	lay(t, s, "x", 6, "", api.ErrRoom)
	tell(t, s, "x", "1,2,3*,4,5")
}

func TestFirstErrorFirst(t *testing.T) {
	s, want := &Shelf{}, &Shelf{}
	for version := 1; version <= 5; version++ {
		lay(t, s, "x", version, "y 1-2", api.OK)
		lay(t, want, "x", version, "y 1-2", api.OK)
	}
	for _, version := range []int{least, -1, 0, 10, most} {
		lay(t, s, "x", version, "?", api.ErrArg)
		lay(t, s, "x", version, "", api.ErrArg)
	}
	lay(t, s, "x", 1, "?", api.ErrDeps)
	lay(t, s, "y", 1, "?", api.ErrDeps)
	lay(t, s, "x", 1, "", api.ErrTaken)
	lay(t, s, "x", 5, "", api.ErrTaken)
	lay(t, s, "y", 1, "", api.ErrRoom)
	lay(t, s, "x", 6, "", api.ErrRoom)
	if !reflect.DeepEqual(s, want) {
		t.Errorf("refused calls changed the shelf: %v, want %v", s, want)
	}
}

func look(t *testing.T, s *Shelf, label string, version int, list []wants.Want, yanked bool) {
	t.Helper()
	l, y, there := s.Look(label, version)
	if !reflect.DeepEqual(l, list) || y != yanked || !there {
		t.Errorf("Look(%q, %d) = %v, %v, %v, want %v, %v, true", label, version, l, y, there, list, yanked)
	}
}

func noLook(t *testing.T, s *Shelf, label string, version int) {
	t.Helper()
	l, yanked, there := s.Look(label, version)
	if l != nil || yanked || there {
		t.Errorf("Look(%q, %d) = %v, %v, %v, want nothing", label, version, l, yanked, there)
	}
}

func TestLook(t *testing.T) {
	s := &Shelf{}
	noLook(t, s, "x", 1)
	lay(t, s, "x", 1, "acme/y 2-3,z 1-1", api.OK)
	lay(t, s, "x", 2, "", api.OK)
	lay(t, s, "y", 2, "x 1-1", api.OK)
	yank(t, s, "x", 2, true, api.OK)
	look(t, s, "x", 1, []wants.Want{{Name: "acme/y", From: 2, To: 3}, {Name: "z", From: 1, To: 1}}, false)
	look(t, s, "x", 2, nil, true)
	look(t, s, "y", 2, []wants.Want{{Name: "x", From: 1, To: 1}}, false)
	yank(t, s, "x", 2, false, api.OK)
	look(t, s, "x", 2, nil, false)
	noLook(t, s, "y", 1)
	noLook(t, s, "z", 1)
	noLook(t, s, "", 0)
	for _, version := range []int{least, -1, 0, 3, 10, most} {
		noLook(t, s, "x", version)
	}
}
