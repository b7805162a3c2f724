package syntax_test

import (
	"math/rand"
	"slices"
	"strings"
	"testing"

	"portolan/api"
	"portolan/lex"
)

// walk goes through all texts of some words, as far as they are beginnings, and holds each one, and each one with a word more, against the model.
type walk struct {
	t     *testing.T
	what  string
	words []string
	count map[api.Errno]int
}

func (w *walk) goOn(s string, words []api.Token, b beginning, more int) {
	at, e := b.ended(len(s))
	check(w.t, w.what, s, words, at, e)
	w.count[e]++
	if more == 0 || b.e != api.OK {
		return
	}
	for _, next := range w.words {
		token := word(next)
		token.At = len(s) + 1
		w.goOn(s+" "+next, append(slices.Clip(words), token), b.with(token), more-1)
	}
}

// allBehind goes through all texts of up to so many of these words more behind a beginning.
func allBehind(t *testing.T, what, ahead string, more int, words ...string) {
	t.Helper()
	b := begun(what)
	l, _, _ := lex.Lex(ahead)
	for _, token := range l {
		b = b.with(token)
	}
	if b.e != api.OK {
		t.Fatalf("%s is no beginning", ahead)
	}
	w := walk{t, what, words, make(map[api.Errno]int)}
	w.goOn(ahead, l, b, more)
	if w.count[api.ErrSyntax] == 0 || w.count[api.OK] == 0 && ahead != "" {
		t.Errorf("behind %s: what came: %v", ahead, w.count)
	}
}

// P8.1: all texts of up to three words of all kinds, and of some words more of fewer kinds.
func TestAllShortExprs(t *testing.T) {
	allBehind(t, "expr", "", 3, allWords()...)
	allBehind(t, "expr", "", 5, strings.Fields("a 1 . NOT IS NULL AND = + - * ( ) COUNT SUM")...)
	allBehind(t, "expr", "", 7, strings.Fields("a - * ( ) NOT <")...)
	allBehind(t, "expr", "a", 8, strings.Fields("a OR AND NOT + = IS NULL")...)
	allBehind(t, "expr", "a", 8, strings.Fields("a OR AND >= - % *")...)
}

// P8.1: the same of queries, behind several beginnings.
func TestAllShortQueries(t *testing.T) {
	allBehind(t, "query", "", 2, allWords()...)
	allBehind(t, "query", "MATCH () RETURN a", 4, allWords()...)
	allBehind(t, "query", "MATCH () RETURN a ORDER BY n", 4, allWords()...)
	allBehind(t, "query", "MATCH () RETURN DISTINCT", 3, allWords()...)
	allBehind(t, "query", "MATCH", 9, strings.Fields("( ) a : , RETURN")...)
	allBehind(t, "query", "MATCH ()", 8, strings.Fields("- < > [ ] ( ) RETURN 1")...)
	allBehind(t, "query", "MATCH () - [", 9, strings.Fields("a : * .. 1 2 SHORTEST ] - > ( ) RETURN")...)
	allBehind(t, "query", "MATCH () < - [ *", 8, strings.Fields("0 1 3 8 9 .. SHORTEST ] - ( ) RETURN a")...)
	allBehind(t, "query", "MATCH ()", 6, strings.Fields("WHERE RETURN DISTINCT a , AS n ORDER BY LIMIT 1")...)
}

// P8.1: behind each word of queries that have all that there is, each word more.
func TestEachWordAtEachPlace(t *testing.T) {
	for _, s := range queries() {
		b := begun("query")
		words, _, _ := lex.Lex(s)
		for i := -1; i < len(words); i++ {
			cut := len(s)
			if i >= 0 {
				b = b.with(words[i])
			}
			if i+1 < len(words) {
				cut = words[i+1].At
			}
			for _, more := range allWords() {
				token := word(more)
				token.At = cut + 1
				with := b.with(token)
				longer := s[:cut] + " " + more
				at, e := with.ended(len(longer))
				check(t, "query", longer, append(slices.Clone(words[:i+1]), token), at, e)
				if with.e != api.OK && cut < len(s) {
					wantNoQuery(t, longer+" "+s[cut:], at, e)
				}
			}
		}
	}
}

// queries have among them each rule of the grammar, with and without each part.
func queries() []string {
	return []string{
		"MATCH (a) RETURN a",
		"MATCH () RETURN 1",
		"MATCH (a:A)-[:E]->(b) RETURN b.x AS n LIMIT 3",
		"MATCH (a)<-[e*1..2]-() RETURN COUNT(*)",
		"MATCH (:A)<-[]-(:B)-[e:E]->(b)-[:F*0..8]->(), (c)-[*SHORTEST 3]->(c:A)<-[p:E*SHORTEST 8]-(d), () RETURN DISTINCT a, b AS n, p",
		"MATCH (a) WHERE a.x > 0 AND 6 / a.x > 2 OR NOT a.y IS NOT NULL RETURN a.x + 1 * -2 % 3 AS n, a ORDER BY n DESC, m ASC, k LIMIT 1099511627776",
		"MATCH (a) WHERE NOT NOT (TRUE OR FALSE) AND (a = NULL) <> (b IS NULL) RETURN SUM(a.x - 1), MIN(-a.x), MAX((1)), COUNT(LENGTH(p) <= 'x') >= COUNT(*) ORDER BY n LIMIT 0",
		"MATCH (a), (b) WHERE 'a' < 'b' RETURN DISTINCT - - a.x / (b.x % 2)",
		"MATCH (a) RETURN a ORDER BY n",
	}
}

// P8.1: drawn texts: right ones, and those with words changed, left out, put in.
func TestAgainstPlain(t *testing.T) {
	r := rand.New(rand.NewSource(21))
	count := make(map[api.Errno]int)
	all := allWords()
	for i := range 2400 {
		what, room := []string{"query", "expr"}[i%2], r.Intn(60)
		words := theGrammar.drawn(r, what, &room, nil)
		if len(words) > 200 {
			continue
		}
		if asPlain(t, what, strings.Join(words, " ")) != api.OK {
			t.Errorf("what was drawn is refused: %s", strings.Join(words, " "))
		}
		for range 3 {
			at := r.Intn(len(words) + 1)
			other := []string{}
			for range r.Intn(2) {
				other = append(other, all[r.Intn(len(all))])
			}
			behind := words[min(len(words), at+r.Intn(2)):]
			s := strings.Join(append(append(append([]string{}, words[:at]...), other...), behind...), " ")
			count[asPlain(t, what, s)]++
		}
	}
	if count[api.OK] < 500 || count[api.ErrSyntax] < 500 {
		t.Errorf("what came: %v", count)
	}
}

// P8.1: drawn words, one behind the other, behind what may be ahead.
func TestAgainstPlainOfWords(t *testing.T) {
	r := rand.New(rand.NewSource(22))
	all := strings.Fields("a n 1 2 TRUE NULL NOT NOT AND OR IS = < + - - - * / . ( ( ( ) ) ) , AS LENGTH( COUNT( COUNT(*) SUM( 'x' ORDER BY LIMIT DESC")
	for i := range 20000 {
		var l []string
		for range 1 + r.Intn(9) {
			l = append(l, all[r.Intn(len(all))])
		}
		s := strings.Join(l, " ")
		if i%2 == 0 {
			asPlain(t, "expr", s)
		} else {
			asPlain(t, "query", "MATCH (a) RETURN a "+s)
		}
	}
}

// P8.1: drawn texts that are deep.
func TestAgainstPlainOfDeep(t *testing.T) {
	r := rand.New(rand.NewSource(23))
	count := make(map[api.Errno]int)
	deeper := []string{"(", "NOT", "-", "LENGTH(", "a + (", "b * -", "a AND NOT", "COUNT(", "SUM(-", "1 = (", "(a) - -", "-a + -", "(NOT a) OR NOT", "- -", "((", "MIN(a.x -", "MAX(NOT", "x AND NOT", "COUNT(*) % ("}
	for range 400 {
		var b strings.Builder
		open := 0
		for range r.Intn(60) {
			part := deeper[r.Intn(len(deeper))]
			if strings.Contains(part, "NOT") && r.Intn(2) == 0 {
				part = "(" + part
			}
			b.WriteString(part + " ")
			open += strings.Count(part, "(") - strings.Count(part, ")")
			for open > 0 && r.Intn(20) == 0 {
				b.WriteString("a) + ")
				open--
			}
		}
		b.WriteString("1 ")
		b.WriteString(strings.Repeat(")", max(0, open-r.Intn(2)*r.Intn(2))))
		count[asPlain(t, "expr", b.String())]++
		count[asPlain(t, "query", "MATCH (a) WHERE "+b.String()+" RETURN "+b.String()+", "+b.String())]++
	}
	for _, e := range []api.Errno{api.OK, api.ErrSyntax, api.ErrSyntaxDeep} {
		if count[e] < 50 {
			t.Errorf("%v came %d times alone: %v", e, count[e], count)
		}
	}
}

// Any text is as the model has it.
func FuzzParse(f *testing.F) {
	for _, s := range queries() {
		f.Add(s)
	}
	f.Add("NOT (a.x - -1) * 2 >= 'x' AND b IS NOT NULL")
	f.Add(strings.Repeat("(", 51) + "1" + strings.Repeat(")", 51))
	f.Fuzz(func(t *testing.T, s string) {
		if len(s) < 300 {
			asPlain(t, "query", s)
			asPlain(t, "expr", s)
		}
	})
}
