package lex_test

import (
	"math"
	"strings"
	"testing"

	"portolan/api"
)

// The examples of the chapter.
func TestExamples(t *testing.T) {
	wantWords(t, "MATCH (a)", key(0, "MATCH"), sign(6, "("), name(7, "a"), sign(8, ")"))
	wantWords(t, "a<=1..2", name(0, "a"), sign(1, "<="), number(3, 1), sign(4, ".."), number(6, 2))
	wantWords(t, `'it\'s' count`, text(0, "it's"), key(8, "COUNT"))
	wantRefused(t, "a $", 2, api.ErrLexRune)
	wantRefused(t, "9223372036854775808", 0, api.ErrLexNumber)
	wantRefused(t, "'a", 0, api.ErrLexText)
}

// P7.1: a query as it is asked, with all kinds of words.
func TestQuery(t *testing.T) {
	wantWords(t, "match (a:Été)<-[e*1..3]-() where a.x<>'' Return Count(*) AS n",
		key(0, "MATCH"), sign(6, "("), name(7, "a"), sign(8, ":"), name(9, "Été"), sign(14, ")"), sign(15, "<"), sign(16, "-"),
		sign(17, "["), name(18, "e"), sign(19, "*"), number(20, 1), sign(21, ".."), number(23, 3), sign(24, "]"), sign(25, "-"),
		sign(26, "("), sign(27, ")"), key(29, "WHERE"), name(35, "a"), sign(36, "."), name(37, "x"), sign(38, "<>"), text(40, ""),
		key(43, "RETURN"), key(50, "COUNT"), sign(55, "("), sign(56, "*"), sign(57, ")"), key(59, "AS"), name(62, "n"))
}

// P7.1: no text; blanks alone; what looks like a blank and is none.
func TestBlanks(t *testing.T) {
	wantWords(t, "")
	for _, s := range []string{" ", "\t", "\n", "\r", "  ", "\r\n", manyBlanks, strings.Repeat(" ", maxQuery/2)} {
		wantWords(t, s)
		wantWords(t, s[1:]+"a"+s[1:], name(len(s)-1, "a"))
	}
	for _, b := range strings.Split(blanks, "") {
		wantWords(t, "a"+b+"b"+b+b+"1"+b+"2"+b+"<"+b+"="+b+"''"+b+"''"+b+"or"+b+"der",
			name(0, "a"), name(2, "b"), number(5, 1), number(7, 2), sign(9, "<"), sign(11, "="), text(13, ""), text(16, ""), key(19, "OR"), name(22, "der"))
	}
	for _, s := range []string{"\v", "\f", "\b", "\x00", "\x1f", "\x7f", "\u0085", "\u00A0", "\u1680", "\u2003", "\u2028", "\u3000", "\uFEFF"} {
		wantRefused(t, s, 0, api.ErrLexRune)
		wantRefused(t, " "+s+" ", 1, api.ErrLexRune)
	}
}

// P7.1: texts of 4096 bytes and of one more, whatever they are; P2: that is told ahead of what else is wrong.
func TestLongTexts(t *testing.T) {
	const full = maxQuery
	wantWords(t, strings.Repeat(" ", full))
	wantWords(t, strings.Repeat(" ", full-1)+"a", name(full-1, "a"))
	wantWords(t, "'"+strings.Repeat("x", full-2)+"'", text(0, strings.Repeat("x", full-2)))
	wantWords(t, "'"+strings.Repeat(`\n`, full/2-1)+"'", text(0, strings.Repeat("\n", full/2-1)))
	wantWords(t, strings.Repeat("0", full-1)+"7", number(0, 7))
	wantRefused(t, strings.Repeat("a", full), 0, api.ErrLexName)
	wantRefused(t, strings.Repeat("9", full), 0, api.ErrLexNumber)
	wantRefused(t, "'"+strings.Repeat("x", full-1), 0, api.ErrLexText)
	wantRefused(t, strings.Repeat(" ", full-1)+"$", full-1, api.ErrLexRune)
	var l []api.Token
	for at := range full {
		l = append(l, sign(at, "("))
	}
	wantWords(t, strings.Repeat("(", full), l...)
	for _, part := range []string{" ", "a", "a ", "9", "0", "(", "'", "''", "é", "$", "\xff", "MATCH "} {
		long := strings.Repeat(part, full+1)
		wantRefused(t, long[:full+1], 0, api.ErrTooMany)
		wantRefused(t, strings.Repeat(part, 100000), 0, api.ErrTooMany)
	}
}

// P7.1: names of as many bytes as may be and one more; keys are none of them.
func TestLongNames(t *testing.T) {
	for _, s := range []string{strings.Repeat("a", 32), strings.Repeat("Z", 32), strings.Repeat("_", 32), strings.Repeat("é", 16), "a" + strings.Repeat("7", 31), "_" + strings.Repeat("ɏ", 15) + "9", strings.Repeat("MATCH", 6) + "or"} {
		if len(s) != maxName {
			t.Fatalf("%q has %d bytes", s, len(s))
		}
		wantWords(t, s, name(0, s))
		wantWords(t, s+" "+s, name(0, s), name(33, s))
		wantWords(t, "1"+s+".", number(0, 1), name(1, s), sign(33, "."))
		for _, more := range []string{"a", "Z", "_", "0", "9", "é", "ɏ"} {
			wantRefused(t, s+more, 0, api.ErrLexName)
			wantRefused(t, "(\n"+s+more+" $", 2, api.ErrLexName)
			wantRefused(t, s+" "+s+more, 33, api.ErrLexName)
		}
		for _, other := range []string{"$", "×", "\xff"} {
			wantRefused(t, s+other, 32, api.ErrLexRune)
		}
	}
	wantRefused(t, "a"+strings.Repeat("é", 16), 0, api.ErrLexName)
	wantRefused(t, strings.Repeat("MATCH", 7), 0, api.ErrLexName)
}

// P7.1: names of all letters, with digits and `_`, in their own small and great letters.
func TestNames(t *testing.T) {
	for _, s := range []string{"a", "Z", "_", "__", "_1", "a1", "A_b_9", "été", "Été", "ÀÖØöøɏ", "Straße", "ǅ", "matches", "match_", "_match", "Match1", "or2", "NULLé", "isnot", "orderby", "x0", "e10", "a_", "mAtcH9"} {
		wantWords(t, s, name(0, s))
		wantWords(t, "-"+s+"-"+s, sign(0, "-"), name(1, s), sign(1+len(s), "-"), name(2+len(s), s))
	}
	wantWords(t, "été1.Ñ", name(0, "été1"), sign(6, "."), name(7, "Ñ"))
	wantWords(t, "a'b'c", name(0, "a"), text(1, "b"), name(4, "c"))
}

// P7.1: numbers up to the greatest one, and above; noughts ahead; letters behind.
func TestNumbers(t *testing.T) {
	for s, n := range map[string]int64{"0": 0, "1": 1, "9": 9, "10": 10, "00": 0, "007": 7, "4096": 4096, "2147483648": 1 << 31, "4294967296": 1 << 32, "1099511627776": 1 << 40, "999999999999999999": 1e18 - 1, "1000000000000000000": 1e18, "9223372036854775806": math.MaxInt64 - 1, "9223372036854775807": math.MaxInt64} {
		wantWords(t, s, number(0, n))
		wantWords(t, strings.Repeat("0", 100)+s, number(0, n))
		wantWords(t, "-"+s+"-", sign(0, "-"), number(1, n), sign(1+len(s), "-"))
		wantWords(t, s+"a1", number(0, n), name(len(s), "a1"))
		wantWords(t, s+"_", number(0, n), name(len(s), "_"))
		wantWords(t, s+"é", number(0, n), name(len(s), "é"))
		wantWords(t, s+"or"+s, number(0, n), name(len(s), "or"+s))
		wantWords(t, s+"or "+s, number(0, n), key(len(s), "OR"), number(len(s)+3, n))
		wantWords(t, s+"."+s+".."+s, number(0, n), sign(len(s), "."), number(len(s)+1, n), sign(2*len(s)+1, ".."), number(2*len(s)+3, n))
		wantWords(t, s+"''", number(0, n), text(len(s), ""))
	}
	for _, s := range []string{"9223372036854775808", "9223372036854775809", "9223372036854775810", "9300000000000000000", "10000000000000000000", "18446744073709551615", "18446744073709551616", "18446744073709551617", "27670116110564327424", "92233720368547758070", "99999999999999999999", "340282366920938463463374607431768211456", "1" + strings.Repeat("0", 64), strings.Repeat("9", 4000)} {
		wantRefused(t, s, 0, api.ErrLexNumber)
		wantRefused(t, strings.Repeat("0", 50)+s, 0, api.ErrLexNumber)
		wantRefused(t, "a "+s+"b $", 2, api.ErrLexNumber)
		wantRefused(t, "-"+s, 1, api.ErrLexNumber)
	}
	wantWords(t, "1e9", number(0, 1), name(1, "e9"))
	wantWords(t, "0x1F", number(0, 0), name(1, "x1F"))
	wantWords(t, "1_000", number(0, 1), name(1, "_000"))
	wantWords(t, "+1", sign(0, "+"), number(1, 1))
	for _, s := range []string{"١", "１", "²"} {
		wantRefused(t, s, 0, api.ErrLexRune)
		wantRefused(t, "1"+s, 1, api.ErrLexRune)
	}
}

// P7.1: each sign alone, beside itself, and those that are put together.
func TestSigns(t *testing.T) {
	for _, s := range strings.Fields(oneSigns + " " + twoSigns) {
		wantWords(t, s, sign(0, s))
		wantWords(t, " "+s+" ", sign(1, s))
		wantWords(t, "a"+s+"a", name(0, "a"), sign(1, s), name(1+len(s), "a"))
		wantWords(t, s+" "+s, sign(0, s), sign(len(s)+1, s))
		wantWords(t, "1"+s+"'"+s+"'", number(0, 1), sign(1, s), text(1+len(s), s))
	}
	wantWords(t, "...", sign(0, ".."), sign(2, "."))
	wantWords(t, "....", sign(0, ".."), sign(2, ".."))
	wantWords(t, ". .", sign(0, "."), sign(2, "."))
	wantWords(t, "<=>", sign(0, "<="), sign(2, ">"))
	wantWords(t, "<>=", sign(0, "<>"), sign(2, "="))
	wantWords(t, "<<>>", sign(0, "<"), sign(1, "<>"), sign(3, ">"))
	wantWords(t, ">>=", sign(0, ">"), sign(1, ">="))
	wantWords(t, "><", sign(0, ">"), sign(1, "<"))
	wantWords(t, "=<", sign(0, "="), sign(1, "<"))
	wantWords(t, "=>", sign(0, "="), sign(1, ">"))
	wantWords(t, "==", sign(0, "="), sign(1, "="))
	wantWords(t, "< =", sign(0, "<"), sign(2, "="))
	wantWords(t, "<\n>", sign(0, "<"), sign(2, ">"))
	wantWords(t, "-->", sign(0, "-"), sign(1, "-"), sign(2, ">"))
	wantWords(t, "<--", sign(0, "<"), sign(1, "-"), sign(2, "-"))
	wantWords(t, "--1", sign(0, "-"), sign(1, "-"), number(2, 1))
	wantWords(t, "/*a*/", sign(0, "/"), sign(1, "*"), name(2, "a"), sign(3, "*"), sign(4, "/"))
	wantWords(t, "//", sign(0, "/"), sign(1, "/"))
}
