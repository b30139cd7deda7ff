package words

import (
	"strings"
	"testing"
)

func TestWords(t *testing.T) {
	for _, text := range []string{"a", "z", "ab", "abc", "acme", "zzzz"} {
		if !IsWord(text) {
			t.Errorf("IsWord(%q) = false, want true", text)
		}
	}
}

func TestNoWords(t *testing.T) {
	for _, text := range []string{
		"", "abcde", strings.Repeat("a", 1<<20), "A", "aB", "a1", "1", "a/b", "/", "/a", "a/", "a ", " a", " ", "a-b", "a\x00", "\x00", "a\n", "\xff", "é", "aé", "ab\xc3", "а",
	} {
		if IsWord(text) {
			t.Errorf("IsWord(%q) = true, want false", text)
		}
	}
}

// Each byte at each place of a text: small letters alone make a word.
func TestEveryByte(t *testing.T) {
	for length := 1; length <= 4; length++ {
		for place := 0; place < length; place++ {
			for b := 0; b < 256; b++ {
				text := []byte("mmmm")[:length]
				text[place] = byte(b)
				want := b >= 'a' && b <= 'z'
				if IsWord(string(text)) != want {
					t.Errorf("IsWord(%q) = %v, want %v", text, !want, want)
				}
			}
		}
	}
}
