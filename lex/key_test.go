package lex_test

import (
	"strings"
	"testing"

	"portolan/lex"
)

// spellings are a text's in small and great letters, all choices of them.
func spellings(s string) []string {
	l := []string{""}
	for _, r := range s {
		var longer []string
		for _, ahead := range l {
			longer = append(longer, ahead+strings.ToLower(string(r)))
			if strings.ToLower(string(r)) != strings.ToUpper(string(r)) {
				longer = append(longer, ahead+strings.ToUpper(string(r)))
			}
		}
		l = longer
	}
	return l
}

// P7.1, P7.3: each key in small letters, great ones, and every choice of both; by itself, and among other words.
func TestKeysInAllSpellings(t *testing.T) {
	count := 0
	for _, k := range strings.Fields(allKeys) {
		count++
		for _, s := range spellings(k) {
			wantKey(t, s, k)
			wantWords(t, s, key(0, k))
			wantWords(t, "("+s+"."+s, sign(0, "("), key(1, k), sign(1+len(k), "."), key(2+len(k), k))
		}
	}
	if count != 23 {
		t.Errorf("%d keys, want 23", count)
	}
}

// noKey: neither Key nor Lex takes it for one; it is a name.
func noKey(t *testing.T, s string) {
	t.Helper()
	wantKey(t, s, "")
	wantWords(t, s, name(0, s))
}

// P7.1: a letter, a digit or a `_` more, ahead or behind; a letter less; a letter that is another one.
func TestAlmostKeys(t *testing.T) {
	is := make(map[string]int)
	for _, k := range strings.Fields(allKeys) {
		is[k]++
	}
	for _, k := range strings.Fields(allKeys) {
		for _, s := range []string{k, strings.ToLower(k)} {
			var others []string
			for _, r := range small + great + "_éÀɏ" {
				others = append(others, s+string(r), string(r)+s)
				for i := range s {
					others = append(others, s[:i]+string(r)+s[i+1:], s[:i]+string(r)+s[i:])
				}
			}
			for _, r := range digits {
				others = append(others, s+string(r), s[:1]+string(r)+s[1:])
			}
			others = append(others, s[:len(s)-1], s[1:], s+s, s+"_"+s)
			for _, o := range others {
				if is[capitals(o)] == 0 {
					noKey(t, o)
				}
			}
		}
	}
}

// P7.1: letters beyond `a` to `z` are no keys' letters, though elsewhere their great ones are.
func TestKeysOfOtherLetters(t *testing.T) {
	for _, s := range []string{"LıMIT", "lımıt", "dıstınct", "ıs", "mın", "ſum", "iſ", "aſ", "aſc", "deſc", "falſe", "ſhorteſt", "diſtinct", "İS", "MİN", "İs", "mátch", "Ñot", "ÓR", "nùll"} {
		noKey(t, s)
	}
}

// P7.1: all texts of one to three letters.
func TestShortKeys(t *testing.T) {
	keys := " " + allKeys + " "
	letters := strings.Split(small, "")
	all := []string{""}
	for from, n := 0, 1; n <= 3; n++ {
		upTo := len(all)
		for _, ahead := range all[from:upTo] {
			for _, r := range letters {
				all = append(all, ahead+r)
			}
		}
		from = upTo
	}
	found := 0
	for _, s := range all[1:] {
		must := capitals(s)
		if !strings.Contains(keys, " "+must+" ") {
			noKey(t, s)
			continue
		}
		found++
		wantKey(t, s, must)
	}
	if found != 10 {
		t.Errorf("%d short keys, want 10", found)
	}
}

// P7.1, L1: what is no word, or not one alone, is no key; nor are bytes that are no runes.
func TestNoKeys(t *testing.T) {
	for _, s := range []string{"", " ", "\t", " MATCH", "MATCH ", "MATCH\n", "ORDER BY", "order by", "IS NOT", "COUNT(", "COUNT(*)", "'MATCH'", "MATCH,", "a", "_", "1", "-", "<>", "..", "M", "\x00", "AS\x00", "\xff", "AS\xff", "\xffAS", "\xc3AS", "\uFFFD", "as\uFFFD", "ＭＡＴＣＨ", "МАХ", "BY\u0301", "A S", "And Or", "ASC DESC"} {
		wantKey(t, s, "")
	}
	// Great and small letters stand 32 apart; so do signs that are none.
	for _, k := range strings.Fields(allKeys) {
		for i := range k {
			for b := range 256 {
				s := []byte(k)
				s[i] = byte(b)
				if capitals(string(s[i:i+1])) != k[i:i+1] && lex.Key(string(s)) == k {
					t.Errorf("Key(%+q) is %q", s, k)
				}
			}
		}
	}
}

// P1: of long texts.
func TestKeyOfLongTexts(t *testing.T) {
	for _, s := range []string{"A", "a", "MATCH", "match ", "é", "\xff", " "} {
		wantKey(t, strings.Repeat(s, 100000), "")
	}
}
