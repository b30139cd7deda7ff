// Package words: which texts are words.
package words

import "depot/api"

// IsWord tells whether a text is one to MaxName small letters.
func IsWord(text string) bool {
	if len(text) < 1 || len(text) > api.MaxName {
		return false
	}
	for i := 0; i < len(text); i++ {
		if text[i] < 'a' || text[i] > 'z' {
			return false
		}
	}
	return true
}
