// Package chars is layer 1: which bytes are text, which texts are names, and blanks. See shared/doc/01-chars.md.
package chars

import (
	"strings"
)

const (
	tab      = 0x9
	newline  = 0xA
	carriage = 0xD
	space    = 0x20

	longestName = 256

	standIn     = 0xFFFD
	standInText = "\uFFFD"
)

// span is a range of code points, both ends of it within.
type span struct {
	first, last rune
}

// letters are what a name may begin with.
var letters = [...]span{
	{'A', 'Z'},
	{'_', '_'},
	{'a', 'z'},
	{0xC0, 0xD6},
	{0xD8, 0xF6},
	{0xF8, 0x2FF},
	{0x370, 0x37D},
	{0x37F, 0x1FFF},
	{0x200C, 0x200D},
	{0x2070, 0x218F},
	{0x2C00, 0x2FEF},
	{0x3001, 0xD7FF},
	{0xF900, 0xFDCF},
	{0xFDF0, 0xFFFD},
	{0x10000, 0xEFFFF},
}

// followers are what may stand in a name behind its first letter, beside letters.
var followers = [...]span{
	{'-', '.'},
	{'0', '9'},
	{0xB7, 0xB7},
	{0x300, 0x36F},
	{0x203F, 0x2040},
}

// Bad is the place of the first byte that is no character's, or -1.
func Bad(b []byte) int {
	s := string(b)
	for i, r := range s {
		if !allowed(r) || broken(s, i, r) {
			return i
		}
	}
	return -1
}

// Name tells whether each of the texts is a name.
func Name(names ...string) bool {
	for _, s := range names {
		if !isName(s) {
			return false
		}
	}
	return true
}

// Lines has each line end of s as one newline.
func Lines(s string) string {
	return swapped(s, func(i int, r rune) (string, bool) {
		if r != carriage {
			return "", false
		}
		if i+1 < len(s) && s[i+1] == newline {
			// The newline behind it stands for both.
			return "", true
		}
		return "\n", true
	})
}

// Flat has each blank of s as a space.
func Flat(s string) string {
	return swapped(s, func(_ int, r rune) (string, bool) {
		return " ", blank(r)
	})
}

// Collapse has the words of s with one space between any two.
func Collapse(s string) string {
	return strings.Join(Words(s), " ")
}

// Words are the pieces of s between blanks.
func Words(s string) []string {
	var words []string
	start := 0
	end := func(at int) {
		if start < at {
			// A piece of s would share its memory, and an answer is new.
			words = append(words, strings.Clone(s[start:at]))
		}
		start = at + 1
	}
	for i, r := range s {
		if blank(r) {
			end(i)
		}
	}
	end(len(s))
	return words
}

// swapped is s with another text for each rune that swap tells so. Only runes of one byte may be swapped. The others are copied as bytes, for a rune that stands for a byte that is no character's would be written as another one.
func swapped(s string, swap func(i int, r rune) (string, bool)) string {
	var out strings.Builder
	start := 0
	for i, r := range s {
		if text, ok := swap(i, r); ok {
			out.WriteString(s[start:i])
			out.WriteString(text)
			start = i + 1
		}
	}
	out.WriteString(s[start:])
	return out.String()
}

// isName tells whether s is a name.
func isName(s string) bool {
	if s == "" || len(s) > longestName {
		return false
	}
	for i, r := range s {
		if broken(s, i, r) || !letter(r) && (i == 0 || !follower(r)) {
			return false
		}
	}
	return true
}

// broken tells whether the rune r, found in s at i, only stands for a byte that is no character's: such a byte is told as the code point FFFD, which is itself a character.
func broken(s string, i int, r rune) bool {
	return r == standIn && !strings.HasPrefix(s[i:], standInText)
}

// allowed tells whether XML has the code point as a character.
func allowed(r rune) bool {
	if r < space {
		return blank(r)
	}
	return r <= 0xD7FF || 0xE000 <= r && r <= 0xFFFD || 0x10000 <= r && r <= 0x10FFFF
}

func blank(r rune) bool {
	return r == space || r == tab || r == newline || r == carriage
}

func letter(r rune) bool {
	for _, x := range letters {
		if x.first <= r && r <= x.last {
			return true
		}
	}
	return false
}

func follower(r rune) bool {
	for _, x := range followers {
		if x.first <= r && r <= x.last {
			return true
		}
	}
	return false
}
