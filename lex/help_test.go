package lex_test

import (
	"fmt"
	"slices"
	"strconv"
	"strings"
	"testing"

	"portolan/api"
	"portolan/lex"
)

// The document's lists, written out once more.
const (
	allKeys    = "MATCH WHERE RETURN DISTINCT ORDER BY ASC DESC LIMIT AS AND OR NOT IS NULL TRUE FALSE SHORTEST LENGTH COUNT SUM MIN MAX"
	twoSigns   = "<> <= >= .."
	oneSigns   = "( ) [ ] - > < , : . = + * / %"
	blanks     = " \t\n\r"
	small      = "abcdefghijklmnopqrstuvwxyz"
	great      = "ABCDEFGHIJKLMNOPQRSTUVWXYZ"
	digits     = "0123456789"
	maxQuery   = 4096
	maxName    = 32
	manyBlanks = " \t\n\r \r\n\t "
)

func name(at int, s string) api.Token { return api.Token{Kind: api.TokName, Text: s, At: at} }

func key(at int, s string) api.Token { return api.Token{Kind: api.TokKey, Text: s, At: at} }

func number(at int, n int64) api.Token { return api.Token{Kind: api.TokInt, Int: n, At: at} }

func text(at int, s string) api.Token { return api.Token{Kind: api.TokText, Text: s, At: at} }

func sign(at int, s string) api.Token { return api.Token{Kind: api.TokSign, Text: s, At: at} }

// capitals are the same text with great letters for those of `a` to `z`, and for no others.
func capitals(s string) string {
	for i := range small {
		s = strings.ReplaceAll(s, small[i:i+1], great[i:i+1])
	}
	return s
}

// moved are the same words so many bytes farther on.
func moved(l []api.Token, by int) []api.Token {
	l = slices.Clone(l)
	for i := range l {
		l[i].At += by
	}
	return l
}

// short writes something out, cut off if it is long.
func short(x any) string {
	s := fmt.Sprintf("%+v", x)
	if len(s) > 300 {
		s = s[:300] + " .."
	}
	return strconv.QuoteToASCII(s)
}

// wantWords: a text is just these words.
func wantWords(t *testing.T, s string, must ...api.Token) {
	t.Helper()
	l, at, e := lex.Lex(s)
	if !slices.Equal(l, must) || at != 0 || e != api.OK {
		t.Errorf("Lex(%s): %s, %d, %v, want %s, 0, OK", short(s), short(l), at, e, short(must))
	}
}

// wantRefused: a text is refused there, for that, and nothing else is told.
func wantRefused(t *testing.T, s string, mustAt int, must api.Errno) {
	t.Helper()
	l, at, e := lex.Lex(s)
	if len(l) != 0 || at != mustAt || e != must {
		t.Errorf("Lex(%s): %s, %d, %v, want nothing, %d, %v", short(s), short(l), at, e, mustAt, must)
	}
}

func wantKey(t *testing.T, s, must string) {
	t.Helper()
	if got := lex.Key(s); got != must {
		t.Errorf("Key(%s): %q, want %q", short(s), got, must)
	}
}
