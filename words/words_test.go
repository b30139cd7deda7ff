package words

import (
	"regexp"
	"strings"
	"testing"
)

var someWords = []string{"a", "z", "ab", "abc", "acme", "zzzz"}

var noWords = []string{
	"", "abcde", strings.Repeat("a", 1<<20), "A", "aB", "a1", "1", "a/b", "/", "/a", "a/", "a ", " a", " ", "a-b", "a\x00", "\x00", "a\n", "\xff", "é", "aé", "ab\xc3", "а",
}

func TestWords(t *testing.T) {
	for _, text := range someWords {
		if !IsWord(text) {
			t.Errorf("IsWord(%q) = false, want true", text)
		}
	}
}

func TestNoWords(t *testing.T) {
	for _, text := range noWords {
		if IsWord(text) {
			t.Errorf("IsWord(%q) = true, want false", text)
		}
	}
}

// Each byte at each place of a text: small letters alone make a word.
func TestEveryByte(t *testing.T) {
	for length := 1; length <= 4; length++ {
		for place := 0; place < length; place++ {
			for b := 0; b < 256; b++ {
				text := []byte("mmmm")[:length]
				text[place] = byte(b)
				want := b >= 'a' && b <= 'z'
				if IsWord(string(text)) != want {
					t.Errorf("IsWord(%q) = %v, want %v", text, !want, want)
				}
			}
		}
	}
}

func TestNames(t *testing.T) {
	for _, first := range someWords {
		if !IsName(first) {
			t.Errorf("IsName(%q) = false, want true", first)
		}
		for _, second := range someWords {
			if name := first + "/" + second; !IsName(name) {
				t.Errorf("IsName(%q) = false, want true", name)
			}
		}
	}
}

func TestNoNames(t *testing.T) {
	for _, text := range []string{"a/b/c", "a//b", "a/b/", "/a/b", "//", "acme /x", "acme/ x", "acme/x ", " acme/x", "acme\\x", "acme:x", "abcdefghi"} {
		if IsName(text) {
			t.Errorf("IsName(%q) = true, want false", text)
		}
	}
	for _, text := range noWords {
		if text != "a/b" && IsName(text) {
			t.Errorf("IsName(%q) = true, want false", text)
		}
		for _, name := range []string{"acme/" + text, text + "/x", text + "/" + text} {
			if IsName(name) {
				t.Errorf("IsName(%q) = true, want false", name)
			}
		}
	}
}

// Each byte at each place of a name, held against another telling of what a
// name is.
func TestEveryByteOfNames(t *testing.T) {
	form := regexp.MustCompile(`\A[a-z]{1,4}(/[a-z]{1,4})?\z`)
	for _, name := range []string{"m", "mmmm", "m/m", "mm/mmm", "mmmm/mmmm"} {
		for place := range len(name) {
			for b := range 256 {
				text := []byte(name)
				text[place] = byte(b)
				if want := form.Match(text); IsName(string(text)) != want {
					t.Errorf("IsName(%q) = %v, want %v", text, !want, want)
				}
			}
		}
	}
}

func TestSplit(t *testing.T) {
	for _, c := range []struct {
		text, first, second string
		scoped              bool
	}{
		{"", "", "", false}, {"acme", "acme", "", false}, {"acme/x", "acme", "x", true}, {"a/b/c", "a", "b/c", true},
		{"/", "", "", true}, {"a/", "a", "", true}, {"/a", "", "a", true},
	} {
		first, second, scoped := Split(c.text)
		if first != c.first || second != c.second || scoped != c.scoped {
			t.Errorf("Split(%q) = %q, %q, %v, want %q, %q, %v", c.text, first, second, scoped, c.first, c.second, c.scoped)
		}
	}
}
