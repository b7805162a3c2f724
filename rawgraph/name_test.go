package rawgraph_test

import (
	"strings"
	"testing"

	"portolan/rawgraph"
)

func wantName(t *testing.T, s string, want bool) {
	t.Helper()
	if rawgraph.Name(s) != want {
		t.Errorf("Name(%+q): %v, want %v", s, !want, want)
	}
}

// P4.1: the chapter's examples of G1.
func TestNameExamples(t *testing.T) {
	for _, s := range []string{"a1", "Été", "_"} {
		wantName(t, s, true)
	}
	for _, s := range []string{"1a", "a b", "×"} {
		wantName(t, s, false)
	}
}

// P4.1: a name has 1 to 32 bytes, whatever its runes are.
func TestNameLengths(t *testing.T) {
	wantName(t, "", false)
	for n := 1; n <= 300; n++ {
		wantName(t, strings.Repeat("a", n), n <= 32)
		wantName(t, "_"+strings.Repeat("7", n-1), n <= 32)
		wantName(t, strings.Repeat("é", n), n <= 16)
		wantName(t, "a"+strings.Repeat("é", n), n <= 15)
	}
}

// standing tells whether a rune may stand in a name, by the document's list written out.
func standing(r rune) bool {
	const plain = "abcdefghijklmnopqrstuvwxyzABCDEFGHIJKLMNOPQRSTUVWXYZ0123456789_"
	return r < 128 && strings.ContainsRune(plain, r) || 0xBF < r && r < 0x250 && r != 0xD7 && r != 0xF7
}

// P4.1: every rune there is: ahead, behind another one, in the midst.
func TestNameOfEveryRune(t *testing.T) {
	for r := rune(0); r <= 0x10FFFF; r++ {
		if r >= 0xD800 && r <= 0xDFFF {
			continue
		}
		may, digit := standing(r), '0' <= r && r <= '9'
		s := string(r)
		wantName(t, s, may && !digit)
		wantName(t, s+"a", may && !digit)
		wantName(t, "a"+s, may)
		wantName(t, "é"+s+"_", may)
	}
}

// P4.1: the runes that the document names, and those just beyond them.
func TestNameAtTheEdges(t *testing.T) {
	for _, s := range []string{"\u00C0", "\u00C1", "\u00D6", "\u00D8", "\u00F6", "\u00F8", "\u00FF", "\u0100", "\u024E", "\u024F", "a", "z", "A", "Z", "a0", "a9", "_0"} {
		wantName(t, s, true)
	}
	for _, s := range []string{"\u00BF", "\u00D7", "\u00F7", "\u0250", "a\u00D7", "a\u00F7", "`", "{", "@", "[", "/", ":", "a/", "a:", "0", "9", "0a", "00", "aª", "e\u0301", "а", "١", "a١", "Ａ"} {
		wantName(t, s, false)
	}
}

// P4.1: bytes that are no UTF-8, wherever they stand; and the rune by which they are shown elsewhere.
func TestNameOfBytesThatAreNoRunes(t *testing.T) {
	bad := []string{"\uFFFD", "\xc1\xa1", "\xc0\x80", "\xe0\x83\x80", "\xf0\x80\x83\x80", "\xed\xa0\x80", "\xf4\x90\x80\x80", "\xc3\xc3\xa9", "\xc3\xa9\xa9", "\x00"}
	for b := 0x80; b <= 0xFF; b++ {
		bad = append(bad, string([]byte{byte(b)}))
	}
	for _, s := range bad {
		wantName(t, s, false)
		wantName(t, s+"a", false)
		wantName(t, "a"+s, false)
		wantName(t, "é"+s+"é", false)
	}
}

// P4.1: blanks and signs make no name, nor do keys of the language make none here.
func TestNameOfWords(t *testing.T) {
	for _, s := range []string{" ", " a", "a ", "a\n", "\ta", "a-b", "a.b", "a'", "$", "a$", "#1", "-1"} {
		wantName(t, s, false)
	}
	for _, s := range []string{"MATCH", "null", "true", "__", "a_1", "Straße", "Œuvre", "ȘțȏǄ"} {
		wantName(t, s, true)
	}
}
