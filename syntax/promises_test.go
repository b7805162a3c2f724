package syntax_test

import (
	"math/rand"
	"strings"
	"testing"

	"portolan/api"
	"portolan/lex"
	"portolan/syntax"
)

// manyQueries are those of queries, and drawn ones.
func manyQueries() []string {
	l := queries()
	r := rand.New(rand.NewSource(31))
	for range 300 {
		room := r.Intn(40)
		words := theGrammar.drawn(r, "query", &room, nil)
		if len(words) < 150 {
			l = append(l, strings.Join(words, " "))
		}
	}
	return l
}

// cutUp are a text's words, each as it is written.
func cutUp(t *testing.T, s string) []string {
	t.Helper()
	words, _, e := lex.Lex(s)
	if e != api.OK {
		t.Fatalf("%s: %v", short(s), e)
	}
	var l []string
	for i, w := range words {
		end := len(s)
		if i+1 < len(words) {
			end = words[i+1].At
		}
		l = append(l, strings.TrimRight(s[w.At:end], " \t\r\n"))
	}
	return l
}

// tight are the words with a blank only where two would be others without it.
func tight(words []string) string {
	s := ""
	for i, w := range words {
		if i > 0 {
			if l, _, e := lex.Lex(words[i-1] + w); e != api.OK || len(l) != 2 || l[1].At != len(words[i-1]) {
				s += " "
			}
		}
		s += w
	}
	return s
}

// spaced are the words with blanks between, as drawn, one at least.
func spaced(r *rand.Rand, words []string) string {
	var b strings.Builder
	blank := func(least int) {
		for range least + r.Intn(4) {
			b.WriteByte(" \t\r\n"[r.Intn(4)])
		}
	}
	blank(0)
	for _, w := range words {
		b.WriteString(w)
		blank(1)
	}
	return b.String()
}

// respelt are the words with other letters in the keys: of 0 small ones, of 1 great ones, of 2 as drawn.
func respelt(r *rand.Rand, words []string, how int) []string {
	var l []string
	for _, w := range words {
		if lex.Key(w) != "" {
			b := []byte(strings.ToLower(w))
			for i := range b {
				if how == 1 || how == 2 && r.Intn(2) == 0 {
					b[i] -= 'a' - 'A'
				}
			}
			w = string(b)
		}
		l = append(l, w)
	}
	return l
}

// P8.2: blanks between all words, more of them, none, and letters of keys, change nothing of a tree.
func TestBlanksAndLetters(t *testing.T) {
	r := rand.New(rand.NewSource(32))
	for _, s := range manyQueries() {
		must, at, e := syntax.Parse(s)
		if at != 0 || e != api.OK {
			t.Fatalf("%s: %d, %v", short(s), at, e)
		}
		words := cutUp(t, s)
		for how := range 3 {
			other := respelt(r, words, how)
			wantQuery(t, strings.Join(other, " "), must)
			wantQuery(t, strings.Join(other, "\n\t"), must)
			wantQuery(t, tight(other), must)
			wantQuery(t, spaced(r, other), must)
		}
	}
}

// P8.2: the same of expressions alone.
func TestBlanksAndLettersOfExprs(t *testing.T) {
	r := rand.New(rand.NewSource(33))
	for range 300 {
		room := r.Intn(40)
		words := theGrammar.drawn(r, "expr", &room, nil)
		must, at, e := syntax.ParseExpr(strings.Join(words, " "))
		if at != 0 || e != api.OK {
			t.Fatalf("%s: %d, %v", short(words), at, e)
		}
		for how := range 3 {
			other := respelt(r, words, how)
			for _, s := range []string{tight(other), spaced(r, other), strings.Join(other, "\r\n")} {
				if x, at, e := syntax.ParseExpr(s); !sameExpr(x, must) || at != 0 || e != api.OK {
					t.Errorf("ParseExpr(%s): %s, %d, %v, want %s, 0, OK", short(s), short(x), at, e, short(must))
				}
			}
		}
	}
}

// P8.2: letters of names and of texts are no keys': they do change the tree.
func TestLettersOfNames(t *testing.T) {
	wantQuery(t, "match (a:A) return A.a as N order by n", api.Query{
		Patterns: []api.Pattern{{Nodes: []api.NodePat{{Var: "a", Label: "A"}}}},
		Items:    []api.Item{{Expr: prop("A", "a"), Name: "N"}},
		Keys:     []api.Key{{Name: "n"}},
		Limit:    -1,
	})
	wantExpr(t, "'And' aNd 'AND'", made(api.OpAnd, text("And"), text("AND")))
}

// P8.3: a text that is cut off behind a word is refused, if it is, at its end, with any blanks more.
func TestCutOff(t *testing.T) {
	refused := 0
	for _, s := range manyQueries() {
		words, _, _ := lex.Lex(s)
		for i := range words {
			for _, cut := range []string{s[:words[i].At], strings.TrimRight(s[:words[i].At], " \t\r\n"), s[:words[i].At] + "\n  "} {
				q, at, e := syntax.Parse(cut)
				if e == api.OK {
					continue
				}
				refused++
				if e != api.ErrSyntax || at != len(cut) || !sameQuery(q, api.Query{}) {
					t.Errorf("Parse(%s): %s, %d, %v, want ErrSyntax at %d", short(cut), short(q), at, e, len(cut))
				}
			}
		}
	}
	if refused < 1000 {
		t.Errorf("%d texts alone are refused", refused)
	}
}

// P8.3: a text with a word more behind is refused, if it is, at that word, or at the end.
func TestWordMore(t *testing.T) {
	atWord, atEnd, right := 0, 0, 0
	for _, s := range manyQueries() {
		for _, more := range allWords() {
			longer := s + " \n" + more
			q, at, e := syntax.Parse(longer)
			switch {
			case e == api.OK:
				right++
				continue
			case at == len(s)+2:
				atWord++
			case at == len(longer):
				atEnd++
			}
			if e != api.ErrSyntax || at != len(longer) && at != len(s)+2 || !sameQuery(q, api.Query{}) {
				t.Errorf("Parse(%s): %s, %d, %v, want ErrSyntax at %d or %d", short(longer), short(q), at, e, len(s)+2, len(longer))
			}
		}
	}
	if atWord < 1000 || atEnd < 1000 || right < 2 {
		t.Errorf("refused at the word %d times, at the end %d, right %d", atWord, atEnd, right)
	}
}

// P8.3: the same of expressions, up to the deepest.
func TestCutOffExprs(t *testing.T) {
	r := rand.New(rand.NewSource(34))
	texts := []string{strings.Repeat("( ", maxDeep) + "1" + strings.Repeat(" )", maxDeep), strings.Repeat("NOT ", maxDeep) + "a", strings.Repeat("- ", maxDeep) + "a", strings.Repeat("MAX ( ", maxDeep) + "a" + strings.Repeat(" )", maxDeep)}
	for range 200 {
		room := r.Intn(40)
		texts = append(texts, strings.Join(theGrammar.drawn(r, "expr", &room, nil), " "))
	}
	for _, s := range texts {
		words := cutUp(t, s)
		for i := range words {
			cut := strings.Join(words[:i], " ")
			if _, at, e := syntax.ParseExpr(cut); e != api.OK && (e != api.ErrSyntax || at != len(cut)) {
				t.Errorf("ParseExpr(%s): %d, %v, want ErrSyntax at %d", short(cut), at, e, len(cut))
			}
		}
		for _, more := range allWords() {
			longer := s + " " + more
			if _, at, e := syntax.ParseExpr(longer); e != api.OK && at != len(s)+1 && at != len(longer) {
				t.Errorf("ParseExpr(%s): %d, %v, want it at %d or %d", short(longer), at, e, len(s)+1, len(longer))
			}
		}
	}
}
