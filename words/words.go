// Package words: which texts are words, and which are names.
package words

import "depot/api"

// IsWord tells whether a text is one to MaxName small letters.
func IsWord(text string) bool {
	if len(text) < 1 || len(text) > api.MaxName {
		return false
	}
	for i := 0; i < len(text); i++ {
		if text[i] < 'a' || text[i] > 'z' {
			return false
		}
	}
	return true
}

// IsName tells whether a text is a word, or a word, `/` and a word.
func IsName(text string) bool {
	first, second, scoped := Split(text)
	if scoped && !IsWord(second) {
		return false
	}
	return IsWord(first)
}

// Split parts a text at its first `/`. Without one, the text is whole the
// first part, and not scoped.
func Split(text string) (string, string, bool) {
	for i := 0; i < len(text); i++ {
		if text[i] == '/' {
			return text[:i], text[i+1:], true
		}
	}
	return text, "", false
}
