package lex_test

import (
	"strings"
	"testing"

	"portolan/api"
)

// P7.1: texts without and with each of the three signs behind a backslash, and with both quotes' neighbours.
func TestTexts(t *testing.T) {
	for s, must := range map[string]string{
		`''`:                           "",
		`'a'`:                          "a",
		`'\''`:                         "'",
		`'\\'`:                         `\`,
		`'\n'`:                         "\n",
		`'\\n'`:                        `\n`,
		`'\\\n'`:                       "\\\n",
		`'\\\\'`:                       `\\`,
		`'\\\''`:                       `\'`,
		`'\'\''`:                       "''",
		`'\n\n'`:                       "\n\n",
		`'a\'b\\c\nd'`:                 "a'b\\c\nd",
		`'n\'n'`:                       "n'n",
		`' '`:                          " ",
		`'"'`:                          `"`,
		`'MATCH'`:                      "MATCH",
		`'match $ 1'`:                  "match $ 1",
		"'99999999999999999999999999'": "99999999999999999999999999",
		"' \t\r\n '":                   " \t\r\n ",
		"'\n'":                         "\n",
		"'\r\n'":                       "\r\n",
		"'\x00\x01\x7f'":               "\x00\x01\x7f",
		"'été × 日本 🜁'":                 "été × 日本 🜁",
		"'\uFFFD'":                     "\uFFFD",
		"'a\uFFFDb\uFFFD'":             "a\uFFFDb\uFFFD",
		"'\u0080\u07FF\u0800\uFFFF\U00010000\U0010FFFF'":           "\u0080\u07FF\u0800\uFFFF\U00010000\U0010FFFF",
		"'" + strings.Repeat("é", 1000) + `\n` + "'":               strings.Repeat("é", 1000) + "\n",
		"'" + strings.Repeat("a very long name_", 100) + "$" + "'": strings.Repeat("a very long name_", 100) + "$",
	} {
		long := len(s)
		wantWords(t, s, text(0, must))
		wantWords(t, " "+s+" ", text(1, must))
		wantWords(t, s+s, text(0, must), text(long, must))
		wantWords(t, "a"+s+"n", name(0, "a"), text(1, must), name(1+long, "n"))
		wantWords(t, s+"1", text(0, must), number(long, 1))
		wantRefused(t, s+`\`, long, api.ErrLexRune)
		wantRefused(t, s+`'`, long, api.ErrLexText)
		wantRefused(t, s[:long-1], 0, api.ErrLexText)
	}
}

// P7.1: behind a backslash stand these three alone, whatever other languages have there.
func TestBackslashes(t *testing.T) {
	for r := rune(0); r < 0x300; r++ {
		s := `\` + string(r)
		switch r {
		case '\'':
			wantWords(t, "'a"+s+"b'", text(0, "a'b"))
		case '\\':
			wantWords(t, "'a"+s+"b'", text(0, `a\b`))
		case 'n':
			wantWords(t, "'a"+s+"b'", text(0, "a\nb"))
		default:
			wantNoText(t, "'a"+s+"b'")
			wantNoText(t, "'"+s+"'")
			wantNoText(t, `'\\`+s+`'`)
		}
	}
	for _, s := range []string{`'\N'`, `'\t'`, `'\"'`, `'\0'`, `'\u0041'`, `'\x41'`, "'\\\n'", `'\ '`, `'\n\'`, `'\\\'`, `'\`, `'\'`, `'\é'`, "'\\\uFFFD'", "'\\\U0010FFFF'"} {
		wantNoText(t, s)
	}
}

// wantNoText: a text is none, alone, behind other words, ahead of what is wrong too.
func wantNoText(t *testing.T, s string) {
	t.Helper()
	wantRefused(t, s, 0, api.ErrLexText)
	wantRefused(t, "'' a"+s+" ", 4, api.ErrLexText)
	wantRefused(t, "\n"+s+" $", 1, api.ErrLexText)
}

// P7.1: texts that do not end.
func TestTextsWithoutEnd(t *testing.T) {
	for _, s := range []string{"'", "'a", "' ", "'a b c", "'\n", `'\'`, `'\\\'`, `'\n`, `'\`, "'é", "'\uFFFD", "'MATCH (a)", "'\"", "'a $"} {
		wantRefused(t, s, 0, api.ErrLexText)
		wantRefused(t, "a "+s, 2, api.ErrLexText)
		wantRefused(t, "''"+s, 2, api.ErrLexText)
	}
	wantRefused(t, "'''", 2, api.ErrLexText)
	wantWords(t, "''''", text(0, ""), text(2, ""))
}

// P7.1: bytes that are no UTF-8 in a text, wherever they stand.
func TestTextsOfBytes(t *testing.T) {
	bad := []string{"\xc1\xa1", "\xc0\x80", "\xe0\x83\x80", "\xf0\x80\x83\x80", "\xed\xa0\x80", "\xf4\x90\x80\x80", "\xc3\xc3\xa9", "\xc3\xa9\xa9", "\xef\xbf", "\xef\xbf\xc3\xa9", "\xef", "\xf0\x9f\x9c", "\uFFFD\xff", "\xff\uFFFD", "\xef\xef\xbf\xbd"}
	for b := 0x80; b <= 0xFF; b++ {
		bad = append(bad, string([]byte{byte(b)}))
	}
	for _, s := range bad {
		wantNoText(t, "'"+s+"'")
		wantNoText(t, "'a"+s+"'")
		wantNoText(t, "'"+s+"a'")
		wantNoText(t, `'\n`+s+`\n'`)
		wantNoText(t, "'\\"+s+"'")
		wantNoText(t, "'"+s)
		wantNoText(t, "'"+s+"\uFFFD'")
		wantNoText(t, "'\uFFFD"+s+"'")
	}
}
