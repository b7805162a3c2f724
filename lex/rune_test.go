package lex_test

import (
	"slices"
	"strings"
	"testing"

	"portolan/api"
	"portolan/lex"
)

// beginning is the kind of word that a rune alone is; 0: a blank, or none.
func beginning(r rune) api.TokenKind {
	switch {
	case r < 128 && strings.ContainsRune(digits, r):
		return api.TokInt
	case r < 128 && strings.ContainsRune(small+great+"_", r), r >= 0xC0 && r <= 0x24F && r != 0xD7 && r != 0xF7:
		return api.TokName
	case slices.Contains(strings.Fields(oneSigns), string(r)):
		return api.TokSign
	}
	return 0
}

// wantRune holds what comes of a rune alone, and behind another word, against what it must be.
func wantRune(t *testing.T, r rune) {
	t.Helper()
	s := string(r)
	l, at, e := lex.Lex("; " + s)
	if len(l) != 0 || at != 0 || e != api.ErrLexRune {
		t.Fatalf("behind what begins no word: %+q: %v, %d, %v", s, l, at, e)
	}
	kind := beginning(r)
	l, at, e = lex.Lex("( " + s)
	switch {
	case strings.ContainsRune(blanks, r):
		if len(l) != 1 || at != 0 || e != api.OK {
			t.Errorf("%+q: %v, %d, %v, want a blank", s, l, at, e)
		}
	case r == '\'':
		wantRefused(t, s, 0, api.ErrLexText)
	case kind == 0:
		if len(l) != 0 || at != 2 || e != api.ErrLexRune {
			t.Errorf("%+q: %v, %d, %v, want ErrLexRune at 2", s, l, at, e)
		}
	case len(l) != 2 || at != 0 || e != api.OK || l[1].Kind != kind || l[1].At != 2:
		t.Errorf("%+q: %v, %d, %v, want a word of kind %d", s, l, at, e, kind)
	case kind != api.TokInt && l[1].Text != s, kind == api.TokInt && l[1] != number(2, int64(r-'0')):
		t.Errorf("%+q: %v", s, l)
	}
}

// P7.1: every rune there is, as the beginning of a word.
func TestEveryRune(t *testing.T) {
	for r := rune(0); r <= 0x10FFFF; r++ {
		if r < 0xD800 || r > 0xDFFF {
			wantRune(t, r)
		}
	}
}

// P7.1: every rune there is, behind a name: it goes on, or ends there.
func TestEveryRuneBehindAName(t *testing.T) {
	for r := rune(0); r <= 0x10FFFF; r++ {
		if r >= 0xD800 && r <= 0xDFFF || r == '\'' {
			continue
		}
		s := "é" + string(r) + "_"
		l, at, e := lex.Lex(s)
		kind := beginning(r)
		switch {
		case kind == api.TokName || kind == api.TokInt:
			if e != api.OK || len(l) != 1 || l[0] != name(0, s) {
				t.Errorf("%+q: %v, %d, %v, want one name", s, l, at, e)
			}
		case kind == 0 && !strings.ContainsRune(blanks, r):
			if len(l) != 0 || at != 2 || e != api.ErrLexRune {
				t.Errorf("%+q: %v, %d, %v, want ErrLexRune at 2", s, l, at, e)
			}
		case e != api.OK || l[0] != name(0, "é") || l[len(l)-1] != name(3, "_"):
			t.Errorf("%+q: %v, %d, %v, want two names", s, l, at, e)
		}
	}
}

// P7.1: what begins no word, ahead of words, between them, behind them; the first one is told.
func TestNoWord(t *testing.T) {
	bad := []string{"$", "!", "\"", "#", "&", ";", "?", "@", "\\", "^", "`", "{", "|", "}", "~", "\x00", "×", "÷", "\u00BF", "\u0250", "日", "🜁", "\uFFFD", "\xc3", "\xef\xbf", "\xc1\xa1", "\xed\xa0\x80", "\u0301", "\ufeff", "’"}
	for b := 0x80; b <= 0xFF; b++ {
		bad = append(bad, string([]byte{byte(b)}))
	}
	for _, s := range bad {
		wantRefused(t, s, 0, api.ErrLexRune)
		wantRefused(t, s+"a", 0, api.ErrLexRune)
		wantRefused(t, "  "+s+" a", 2, api.ErrLexRune)
		wantRefused(t, "a"+s+"b", 1, api.ErrLexRune)
		wantRefused(t, "é"+s, 2, api.ErrLexRune)
		wantRefused(t, "12"+s, 2, api.ErrLexRune)
		wantRefused(t, "12."+s, 3, api.ErrLexRune)
		wantRefused(t, "<"+s+">", 1, api.ErrLexRune)
		wantRefused(t, "'"+`\n`+"'"+s, 4, api.ErrLexRune)
		wantRefused(t, "MATCH\n"+s, 6, api.ErrLexRune)
		wantRefused(t, "MATCH"+s, 5, api.ErrLexRune)
		wantRefused(t, "a "+s+" "+s, 2, api.ErrLexRune)
	}
}

// P7.1, P2: of several things that are wrong the one that stands first, whichever it is.
func TestFirstOfSeveral(t *testing.T) {
	wrong := map[string]api.Errno{
		"$":                     api.ErrLexRune,
		"\xff":                  api.ErrLexRune,
		"9223372036854775808":   api.ErrLexNumber,
		`'\x'`:                  api.ErrLexText,
		"'\xff'":                api.ErrLexText,
		strings.Repeat("x", 33): api.ErrLexName,
	}
	for a, must := range wrong {
		for b := range wrong {
			wantRefused(t, a+" "+b, 0, must)
			wantRefused(t, "ok 'a' 12 "+a+"\n"+b+" '", 10, must)
		}
		wantRefused(t, a+strings.Repeat(" ", maxQuery), 0, api.ErrTooMany)
	}
}
