// Package wants: texts that say which versions of which names are wanted.
package wants

import (
	"depot/api"
	"depot/words"
)

// Want wants a version from From to To of Name.
type Want struct {
	Name string
	From int
	To   int
}

// Parse tells the wants of a text, in their order, and whether it is such a
// text. The empty one is, and has no wants.
func Parse(text string) ([]Want, bool) {
	if text == "" {
		return nil, true
	}
	var list []Want
	start := 0
	for i := 0; i <= len(text); i++ {
		if i < len(text) && text[i] != ',' {
			continue
		}
		if len(list) >= api.MaxWants {
			return nil, false
		}
		want, ok := parseOne(text[start:i])
		if !ok {
			return nil, false
		}
		list = append(list, want)
		start = i + 1
	}
	return list, true
}

func parseOne(text string) (Want, bool) {
	// What is behind the name is of one length, so the end is looked at first.
	end := len(text) - len(" 1-9")
	if end < 0 || text[end] != ' ' || text[end+2] != '-' {
		return Want{}, false
	}
	from := digit(text[end+1])
	to := digit(text[end+3])
	if from < 1 || to < from {
		return Want{}, false
	}
	name := text[:end]
	if !words.IsName(name) {
		return Want{}, false
	}
	// A copy of the name, so that the list may be kept without the text.
	return Want{Name: string([]byte(name)), From: from, To: to}, true
}

// digit tells the number of a digit, and 0, which no want may have, of all else.
func digit(b byte) int {
	if b < '1' || b > '9' {
		return 0
	}
	return int(b - '0')
}
