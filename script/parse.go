package script

import (
	"strings"

	"ferrule/api"
	"ferrule/quote"
)

// mostDigits is how many digits a number may have.
const mostDigits = 9

// Parse reads commands.
func Parse(text string) ([]Command, int, api.Errno) {
	if len(text) > api.MaxText {
		return nil, 0, api.ELIMIT
	}
	lines := cutLines(text)
	if len(lines) > api.MaxLines {
		return nil, 0, api.ELIMIT
	}
	var l []Command
	for i, line := range lines {
		begin := skipBlanks(line)
		if begin == "" || begin[0] == '#' {
			continue
		}
		c, ok := command(begin)
		if !ok {
			return nil, i + 1, api.ESYNTAX
		}
		l = append(l, c)
	}
	return l, 0, api.OK
}

// Word tells a text's first word, and the rest.
func Word(text string) (word string, rest string) {
	word, rest = cutWord(text)
	// Pieces of text would keep all of it.
	return strings.Clone(word), strings.Clone(rest)
}

// cutLines cuts a text into its lines, without the bytes that end them.
func cutLines(text string) []string {
	var l []string
	begin := 0
	for i, r := range text {
		if r == '\n' {
			l = append(l, text[begin:i])
			begin = i + 1
		}
	}
	if begin < len(text) {
		l = append(l, text[begin:])
	}
	return l
}

// isBlank tells whether a rune may stand between a line's parts.
func isBlank(r rune) bool { return r == ' ' || r == '\t' }

// skipBlanks tells a text from its first rune on that is no blank.
func skipBlanks(text string) string {
	for i, r := range text {
		if !isBlank(r) {
			return text[i:]
		}
	}
	return ""
}

// cutWord cuts a text behind its first word.
func cutWord(text string) (word, rest string) {
	text = skipBlanks(text)
	for i, r := range text {
		if isBlank(r) || r == '\n' {
			return text[:i], text[i:]
		}
	}
	return text, ""
}

// command reads a line as a command.
func command(line string) (Command, bool) {
	name, rest := cutWord(line)
	switch name {
	case "read", "write", "trim":
		return ranged(name, rest)
	case "cut", "fail":
		return counted(name, rest)
	case "mount":
		if ends(rest) {
			return Mount{K: noCut}, true
		}
		return counted(name, rest)
	case "show":
		return Show{}, ends(rest)
	case "stat":
		return Stat{}, ends(rest)
	}
	return nil, false
}

// ranged reads what stands behind the name of a command that has a range.
func ranged(name, rest string) (Command, bool) {
	lba, rest, first := cutNumber(rest)
	n, rest, second := cutNumber(rest)
	if !first || !second {
		return nil, false
	}
	switch name {
	case "read":
		return Read{Lba: lba, N: n}, ends(rest)
	case "trim":
		return Trim{Lba: lba, N: n}, ends(rest)
	}
	data, ok := lastText(rest)
	return Write{Lba: lba, N: n, Data: data}, ok
}

// counted reads what stands behind the name of a command that has one number.
func counted(name, rest string) (Command, bool) {
	k, rest, ok := cutNumber(rest)
	if !ok || !ends(rest) {
		return nil, false
	}
	switch name {
	case "cut":
		return Cut{K: k}, true
	case "fail":
		return Fail{K: k}, true
	}
	return Mount{K: k}, true
}

// ends tells whether nothing more stands in a line.
func ends(rest string) bool { return skipBlanks(rest) == "" }

// lastText reads a text behind which nothing more stands in its line.
func lastText(rest string) (string, bool) {
	rest = skipBlanks(rest)
	s, n, e := quote.Read(rest)
	return s, e == api.OK && ends(rest[n:])
}

// cutNumber cuts a text behind its first word, which is a number.
func cutNumber(text string) (v int, rest string, ok bool) {
	word, rest := cutWord(text)
	v, ok = number(word)
	return v, rest, ok
}

// number reads a word as a number.
func number(word string) (int, bool) {
	digits := strings.TrimPrefix(word, "-")
	if digits == "" || len(digits) > mostDigits {
		return 0, false
	}
	v := 0
	for _, r := range digits {
		if r < '0' || r > '9' {
			return 0, false
		}
		v = 10*v + int(r-'0')
	}
	if len(digits) < len(word) {
		v = -v
	}
	return v, true
}
