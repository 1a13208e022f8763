package tree

import "hostel/api"

// isText says whether s is valid UTF-8 of at most so many characters as a text may have.
func isText(s string) bool {
	at := 0
	for n := 0; n < api.MaxText && at < len(s); n++ {
		size := charSize(s, at)
		if size == 0 {
			return false
		}
		at += size
	}
	return at == len(s)
}

// charSize is how many bytes the character has that begins at a place inside s; 0, if none begins there.
func charSize(s string, at int) int {
	size := sizeBy(s[at])
	if size > len(s)-at {
		return 0
	}
	for i := 1; i < size; i++ {
		if s[at+i] < 0x80 || s[at+i] > 0xbf {
			return 0
		}
	}
	if size > 1 && !goTogether(s[at], s[at+1]) {
		return 0
	}
	return size
}

// sizeBy is how many bytes a character has by the first of them; 0, if none begins so.
func sizeBy(first byte) int {
	switch {
	case first < 0x80:
		return 1
	case first < 0xc2:
		// Bytes that only go on, and two that would spell at length what one byte spells.
		return 0
	case first < 0xe0:
		return 2
	case first < 0xf0:
		return 3
	case first < 0xf5:
		return 4
	}
	return 0
}

// goTogether says whether a character may begin with these two bytes, of which the second goes on.
func goTogether(first, second byte) bool {
	switch first {
	case 0xe0:
		// Below, it would spell at length what two bytes spell.
		return second >= 0xa0
	case 0xed:
		// From there on stand the halves of surrogate pairs, which are no characters.
		return second < 0xa0
	case 0xf0:
		// Below, it would spell at length what three bytes spell.
		return second >= 0x90
	case 0xf4:
		// From there on there are no code points.
		return second < 0x90
	}
	return true
}
