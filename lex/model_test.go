package lex_test

import (
	"math/big"
	"math/rand"
	"regexp"
	"slices"
	"strings"
	"testing"
	"unicode/utf8"

	"portolan/api"
	"portolan/lex"
)

// The words of the document as patterns of whole texts.
var (
	aName   = regexp.MustCompile(`^[_A-Za-z\x{C0}-\x{D6}\x{D8}-\x{F6}\x{F8}-\x{24F}][_A-Za-z0-9\x{C0}-\x{D6}\x{D8}-\x{F6}\x{F8}-\x{24F}]*$`)
	aNumber = regexp.MustCompile(`^[0-9]+$`)
	aText   = regexp.MustCompile(`^'(?:[^'\\]|\\['\\n])*'$`)
	inTexts = strings.NewReplacer(`\'`, `'`, `\\`, `\`, `\n`, "\n")
)

// plainWord is the word that all of s is; its Kind is 0, if it is none.
func plainWord(s string) (api.Token, api.Errno) {
	switch {
	case aName.MatchString(s) && slices.Contains(strings.Fields(allKeys), capitals(s)):
		return key(0, capitals(s)), api.OK
	case aName.MatchString(s) && len(s) > maxName:
		return name(0, s), api.ErrLexName
	case aName.MatchString(s):
		return name(0, s), api.OK
	case aNumber.MatchString(s):
		n, _ := new(big.Int).SetString(s, 10)
		if !n.IsInt64() {
			return number(0, 0), api.ErrLexNumber
		}
		return number(0, n.Int64()), api.OK
	case aText.MatchString(s) && utf8.ValidString(s):
		return text(0, inTexts.Replace(s[1:len(s)-1])), api.OK
	case slices.Contains(strings.Fields(twoSigns+" "+oneSigns), s):
		return sign(0, s), api.OK
	}
	return api.Token{}, api.OK
}

// longest is the longest word with which s begins, by asking of all its beginnings whether they are words.
func longest(s string) (api.Token, int, api.Errno) {
	for long := len(s); long > 0; long-- {
		if w, e := plainWord(s[:long]); w.Kind != 0 {
			return w, long, e
		}
	}
	if s[0] == '\'' {
		return api.Token{}, 0, api.ErrLexText
	}
	return api.Token{}, 0, api.ErrLexRune
}

// plainLex is Lex by the document's words alone.
func plainLex(s string) ([]api.Token, int, api.Errno) {
	if len(s) > maxQuery {
		return nil, 0, api.ErrTooMany
	}
	var l []api.Token
	for at := 0; at < len(s); {
		if strings.Contains(blanks, s[at:at+1]) {
			at++
			continue
		}
		w, long, e := longest(s[at:])
		if e != api.OK {
			return nil, at, e
		}
		w.At = at
		l = append(l, w)
		at += long
	}
	return l, 0, api.OK
}

// asPlain holds Lex against the plain one, and tells what came.
func asPlain(t *testing.T, s string) api.Errno {
	t.Helper()
	l, at, e := lex.Lex(s)
	must, mustAt, mustE := plainLex(s)
	if !slices.Equal(l, must) || at != mustAt || e != mustE {
		t.Fatalf("Lex(%+q): %+v, %d, %v, want %+v, %d, %v", s, l, at, e, must, mustAt, mustE)
	}
	return e
}

// P7.1: all texts of up to five of these: quotes and backslashes with what may stand behind, bytes of half a rune, blanks.
func TestAllShortTexts(t *testing.T) {
	allOf(t, 5, "'", "\\", "n", "7", " ", "é", "\xc3", "$", "\n")
}

// P7.1: all texts of up to five of these: signs that make one with another, numbers and names beside them.
func TestAllShortSigns(t *testing.T) {
	allOf(t, 5, "<", ">", "=", ".", "-", "1", "a", " ", "_")
}

// P7.1: all texts of up to three signs, with a name and a blank among them.
func TestAllSignsInARow(t *testing.T) {
	allOf(t, 3, append(strings.Fields(oneSigns), "a", "0", " ", "!")...)
}

// allOf holds all texts of up to so many parts against the plain lexer.
func allOf(t *testing.T, most int, parts ...string) {
	t.Helper()
	count := make(map[api.Errno]int)
	var goOn func(s string, more int)
	goOn = func(s string, more int) {
		count[asPlain(t, s)]++
		for _, p := range parts {
			if more > 0 {
				goOn(s+p, more-1)
			}
		}
	}
	goOn("", most)
	if count[api.OK] < 100 || count[api.ErrLexRune] == 0 && slices.Contains(parts, "$") {
		t.Errorf("what came: %v", count)
	}
}

// drawnParts are what drawn texts are put together of.
func drawnParts() []string {
	l := strings.Fields(allKeys + " " + strings.ToLower(allKeys) + " " + twoSigns + " " + oneSigns)
	l = append(l, strings.Split(blanks, "")...)
	l = append(l, "a", "_", "é", "Ɏx9", "x1", "match1", "Return_", "ſum", "0", "007", "42", "9223372036854775807", "00009223372036854775807")
	return append(l, "''", "'a b'", `'it\'s'`, `'\\\n'`, "'é\uFFFD'", "'\n'", "'MATCH'", strings.Repeat("b", 31), strings.Repeat("é", 8))
}

// wrongParts begin no word, or one that may go wrong.
func wrongParts() []string {
	return []string{"$", "\x00", "×", "\xff", "\xc3", "\uFFFD", "'", "\\", `'\x'`, "9223372036854775808", strings.Repeat("c", 33), "\v", "\u00A0", "\"", "!", "'\xff'"}
}

// P7.1: drawn texts, of right parts, and with wrong ones among them.
func TestAgainstPlain(t *testing.T) {
	r := rand.New(rand.NewSource(11))
	right, wrong := drawnParts(), wrongParts()
	count := make(map[api.Errno]int)
	for range 6000 {
		var b strings.Builder
		for range r.Intn(12) {
			if r.Intn(25) == 0 {
				b.WriteString(wrong[r.Intn(len(wrong))])
				continue
			}
			b.WriteString(right[r.Intn(len(right))])
			b.WriteString([]string{"", " ", "\n\t"}[r.Intn(3)])
		}
		count[asPlain(t, b.String())]++
	}
	for _, e := range []api.Errno{api.OK, api.ErrLexRune, api.ErrLexNumber, api.ErrLexText, api.ErrLexName} {
		if count[e] < 20 {
			t.Errorf("%v came %d times alone", e, count[e])
		}
	}
}

// P7.1: drawn bytes, all that there are and those that mean something.
func TestAgainstPlainOfBytes(t *testing.T) {
	r := rand.New(rand.NewSource(12))
	const some = "'\\n <>=.azAZ_09\xc3\xa9\x97\xef\xbf\xbd\r\t"
	for i := range 20000 {
		b := make([]byte, r.Intn(24))
		for j := range b {
			b[j] = some[r.Intn(len(some))]
			if i%2 == 0 && r.Intn(4) == 0 {
				b[j] = byte(r.Intn(256))
			}
		}
		asPlain(t, string(b))
	}
}

// Any text is as the plain lexer has it.
func FuzzLex(f *testing.F) {
	for _, s := range append(drawnParts(), wrongParts()...) {
		f.Add(s)
		f.Add("MATCH (a) " + s + " RETURN a")
	}
	f.Fuzz(func(t *testing.T, s string) {
		if len(s) < 300 {
			asPlain(t, s)
		}
	})
}
