package lex_test

import (
	"math/rand"
	"slices"
	"strings"
	"testing"

	"portolan/api"
	"portolan/lex"
)

// queries are texts of right words, one behind the other, with and without blanks between.
func queries() []string {
	l := []string{
		"MATCH (a:A)-[:E]->(b) RETURN b.x AS n LIMIT 3",
		"match(a)<-[e*1..2]-()return count(*)",
		"MATCH (a), (b) WHERE NOT a.x + 1 = -2 OR a.y IS NOT NULL RETURN DISTINCT a ORDER BY n DESC, m ASC",
		`where'it\'s'and'\\'or'` + "\n" + `'`,
		"1..2<>3<=4>=5...6",
		"été_1 007 ''''\t\r\nselect",
	}
	r := rand.New(rand.NewSource(13))
	parts := drawnParts()
	for range 500 {
		var b strings.Builder
		for range 1 + r.Intn(10) {
			b.WriteString(parts[r.Intn(len(parts))])
			b.WriteString([]string{"", " ", "\t\n"}[r.Intn(3)])
		}
		if words, _, e := lex.Lex(b.String()); e == api.OK && len(words) > 0 {
			l = append(l, b.String())
		}
	}
	return l
}

// P7.2: words stand behind one another; from one to the next there are its bytes, and then blanks alone.
func TestWordsBehindOneAnother(t *testing.T) {
	for _, s := range queries() {
		l, _, e := lex.Lex(s)
		if e != api.OK || len(l) == 0 {
			t.Fatalf("%+q: %v, %v", s, l, e)
		}
		if strings.Trim(s[:l[0].At], blanks) != "" {
			t.Errorf("%+q: something is ahead of %+v", s, l[0])
		}
		for i, w := range l {
			end := len(s)
			if i+1 < len(l) {
				end = l[i+1].At
			}
			if w.At >= end {
				t.Fatalf("%+q: %+v does not end ahead of %d", s, w, end)
			}
			own := s[w.At:end]
			if w.Kind != api.TokText {
				own = strings.TrimRight(own, blanks)
			} else {
				own = own[:strings.LastIndex(own, "'")+1]
			}
			if strings.Trim(s[w.At+len(own):end], blanks) != "" {
				t.Errorf("%+q: something stands behind %+v", s, w)
			}
			wantWords(t, own, moved(l[i:i+1], -w.At)...)
		}
	}
}

// P7.2: a blank ahead moves all by one, any blank, any number of them; one behind moves nothing.
func TestBlankAhead(t *testing.T) {
	for _, s := range queries() {
		l, _, _ := lex.Lex(s)
		for n, ahead := 1, ""; n <= len(manyBlanks); n++ {
			ahead = manyBlanks[:n]
			wantWords(t, ahead+s, moved(l, n)...)
			wantWords(t, s+ahead, l...)
		}
		for _, b := range strings.Split(blanks, "") {
			wantWords(t, b+s, moved(l, 1)...)
		}
	}
}

// P7.2: what is refused is refused one byte farther on, for the same; a text that is full is too long.
func TestBlankAheadOfWhatIsWrong(t *testing.T) {
	for _, s := range wrongParts() {
		for _, ahead := range []string{"", "a ", "MATCH (", "'' 1 "} {
			_, at, e := lex.Lex(ahead + s)
			if e == api.OK || at != len(ahead) {
				t.Errorf("%+q: %d, %v, want an error at %d", ahead+s, at, e, len(ahead))
			}
			for _, b := range strings.Split(blanks, "") {
				wantRefused(t, b+ahead+s, at+1, e)
				wantRefused(t, ahead+b+s, at+1, e)
			}
		}
	}
	full := strings.Repeat("a ", maxQuery/2)
	l, _, e := lex.Lex(full)
	if e != api.OK || len(l) != maxQuery/2 {
		t.Errorf("a full text: %d words, %v", len(l), e)
	}
	wantRefused(t, " "+full, 0, api.ErrTooMany)
}

// P7.2: blanks between words, more of them, or other ones, move words and change nothing else.
func TestMoreBlanksBetween(t *testing.T) {
	for _, s := range queries() {
		l, _, _ := lex.Lex(s)
		for i, w := range l {
			wantWords(t, s[:w.At]+"\r\n "+s[w.At:], append(slices.Clone(l[:i]), moved(l[i:], 3)...)...)
		}
	}
}

// respelt is the text with the letters of its keys made small or great, as drawn.
func respelt(r *rand.Rand, s string, l []api.Token) string {
	b := []byte(s)
	for _, w := range l {
		if w.Kind != api.TokKey {
			continue
		}
		for i := range w.Text {
			b[w.At+i] = w.Text[i]
			if r.Intn(2) == 0 {
				b[w.At+i] = small[strings.IndexByte(great, w.Text[i])]
			}
		}
	}
	return string(b)
}

// P7.3: small and great letters of keys change nothing, of what is told and of what is refused.
func TestLettersOfKeys(t *testing.T) {
	r := rand.New(rand.NewSource(14))
	changed := 0
	for _, s := range queries() {
		l, _, _ := lex.Lex(s)
		for range 5 {
			other := respelt(r, s, l)
			wantWords(t, other, l...)
			wantRefused(t, other+" $", len(s)+1, api.ErrLexRune)
			if other != s {
				changed++
			}
		}
	}
	if changed < 1000 {
		t.Errorf("%d texts alone have other letters", changed)
	}
}

// P7.1: letters of names, and of texts, do count: they are told as they stand.
func TestLettersOfOthers(t *testing.T) {
	for _, s := range spellings("abcé") {
		wantWords(t, s+" '"+s+"'", name(0, s), text(6, s))
	}
	wantWords(t, "'match' matcH1 'Or'", text(0, "match"), name(8, "matcH1"), text(15, "Or"))
}
