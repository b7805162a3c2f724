package lex

import (
	"strconv"
	"strings"
	"unicode/utf8"

	"portolan/api"
	"portolan/rawgraph"
)

// keys are the language's own words.
var keys = [...]string{
	"MATCH", "WHERE", "RETURN", "DISTINCT", "ORDER", "BY", "ASC", "DESC", "LIMIT", "AS",
	"AND", "OR", "NOT", "IS", "NULL", "TRUE", "FALSE",
	"SHORTEST", "LENGTH", "COUNT", "SUM", "MIN", "MAX",
}

// signs are all of them, those of two bytes ahead: the first one with which a text begins is the longest.
var signs = [...]string{
	"<>", "<=", ">=", "..",
	"(", ")", "[", "]", "-", ">", "<", ",", ":", ".", "=", "+", "*", "/", "%",
}

// readWord reads the word with which s begins, its first rune given, and tells how many bytes it has.
func readWord(s string, first rune) (api.Token, int, api.Errno) {
	switch {
	case first == '\'':
		return readText(s)
	case isDigit(first):
		return readNumber(s)
	case beginsName(first):
		return readName(s)
	}
	return readSign(s)
}

// readName reads a key or a name. The bound is a name's alone, and keys are all below it.
func readName(s string) (api.Token, int, api.Errno) {
	long := leading(s, goesOnInName)
	if key := Key(s[:long]); key != "" {
		return api.Token{Kind: api.TokKey, Text: key}, long, api.OK
	}
	if long > api.MaxName {
		return api.Token{}, 0, api.ErrLexName
	}
	// A copy: a name that is kept does not keep the whole query's text.
	return api.Token{Kind: api.TokName, Text: strings.Clone(s[:long])}, long, api.OK
}

// readNumber reads digits. As they are digits, a number that is too great is all that can be wrong.
func readNumber(s string) (api.Token, int, api.Errno) {
	long := leading(s, isDigit)
	n, err := strconv.ParseInt(s[:long], 10, 64)
	if err != nil {
		return api.Token{}, 0, api.ErrLexNumber
	}
	return api.Token{Kind: api.TokInt, Int: n}, long, api.OK
}

// readText reads what stands between quotes.
func readText(s string) (api.Token, int, api.Errno) {
	var text strings.Builder
	inside := s[1:]
	escaped := false
	for i, r := range inside {
		if r == utf8.RuneError && !isWritten(inside[i:]) {
			goto none
		}
		switch {
		case escaped && r == 'n':
			text.WriteByte('\n')
		case escaped && r != '\'' && r != '\\':
			goto none
		case !escaped && r == '\'':
			return api.Token{Kind: api.TokText, Text: text.String()}, i + 2, api.OK
		case !escaped && r == '\\':
			escaped = true
			continue
		default:
			text.WriteRune(r)
		}
		escaped = false
	}
none:
	return api.Token{}, 0, api.ErrLexText
}

// readSign reads a sign, the longest that there is: what begins no other word and no sign begins none.
func readSign(s string) (api.Token, int, api.Errno) {
	for _, sign := range signs {
		if strings.HasPrefix(s, sign) {
			return api.Token{Kind: api.TokSign, Text: sign}, len(sign), api.OK
		}
	}
	return api.Token{}, 0, api.ErrLexRune
}

// leading is how many bytes those runes have that stand ahead and are as may tells.
func leading(s string, may func(rune) bool) int {
	for i, r := range s {
		if !may(r) {
			return i
		}
	}
	return len(s)
}

// inGreatLetters changes `a` to `z` alone: the runes beyond them have great letters too, but some of these are among `A` to `Z`, and no key may come of them.
func inGreatLetters(s string) string {
	return strings.Map(func(r rune) rune {
		if r >= 'a' && r <= 'z' {
			return r - 'a' + 'A'
		}
		return r
	}, s)
}

// isWritten tells whether s begins with U+FFFD itself, and not with a byte that the range shows as that.
func isWritten(s string) bool { return strings.HasPrefix(s, "\uFFFD") }

func isBlank(r rune) bool { return r == ' ' || r == '\t' || r == '\n' || r == '\r' }

func isDigit(r rune) bool { return r >= '0' && r <= '9' }

// beginsName and goesOnInName ask rawgraph, so that the words of a query and the names of a graph are of the same runes.
func beginsName(r rune) bool { return rawgraph.Name(string(r)) }

func goesOnInName(r rune) bool { return rawgraph.Name("_" + string(r)) }
