package printer_test

import (
	"math/rand"
	"strings"
	"testing"

	"portolan/api"
	"portolan/lex"
	"portolan/printer"
	"portolan/syntax"
)

// P9.2: what Print and PrintExpr tell of drawn trees is read as these; different trees have different texts.
func TestThereAndBack(t *testing.T) {
	d := drawerOf(95, 0)
	trees := make(map[string]api.Query)
	for range 3000 {
		q := d.query()
		s, e := printer.Print(q)
		if e == api.ErrTooMany {
			continue
		}
		back, at, not := syntax.Parse(s)
		if e != api.OK || not != api.OK || at != 0 || !sameQuery(back, q) {
			t.Errorf("%s: %s, %v, read as %s, %d, %v", short(q), short(s), e, short(back), at, not)
		}
		if other, is := trees[s]; is && !sameQuery(other, q) {
			t.Errorf("%s is the text of %s and of %s", short(s), short(other), short(q))
		}
		trees[s] = q
	}
	told := make(map[string]api.Expr)
	for range 5000 {
		x := d.wholeExpr()
		s, e := printer.PrintExpr(x)
		back, at, not := syntax.ParseExpr(s)
		if e != api.OK || not != api.OK || at != 0 || !sameExpr(back, x) {
			t.Errorf("%s: %s, %v, read as %s, %d, %v", short(x), short(s), e, short(back), at, not)
		}
		if other, is := told[s]; is && !sameExpr(other, x) {
			t.Errorf("%s is the text of %s and of %s", short(s), short(other), short(x))
		}
		told[s] = x
	}
}

// varied is another text of the same tree: with other blanks, keys in other letters, noughts ahead of numbers, ASC, and brackets more.
func varied(t *testing.T, r *rand.Rand, s string) string {
	t.Helper()
	l, at, e := lex.Lex(s)
	if e != api.OK {
		t.Fatalf("%s: %d, %v", short(s), at, e)
	}
	var b strings.Builder
	keys := false
	for i, w := range l {
		end := len(s)
		if i+1 < len(l) {
			end = l[i+1].At
		}
		word := strings.TrimRight(s[w.At:end], " ")
		switch {
		case w.Kind == api.TokKey:
			keys = keys || w.Text == "ORDER"
			word = letters(r, word)
		case w.Kind == api.TokInt:
			word = many(r.Intn(3), "0") + word
		case w.Kind == api.TokName && keys && (end == len(s) || l[i+1].Text != "DESC") && r.Intn(2) == 0:
			word += letters(r, " ASC")
		}
		b.WriteString(word + many(1+r.Intn(3), one(&drawer{pick: r.Intn}, " ", "\n", "\t", "\r\n")))
	}
	return b.String()
}

// letters are those of a key, small or great.
func letters(r *rand.Rand, s string) string {
	b := []byte(s)
	for i := range b {
		if r.Intn(2) == 0 {
			b[i] = strings.ToLower(s)[i]
		}
	}
	return string(b)
}

// bracketed writes an expression with brackets around each part, one pair or two.
func bracketed(r *rand.Rand, x api.Expr) string {
	around := x
	around.Kids = nil
	for range x.Kids {
		around.Kids = append(around.Kids, name(hole))
	}
	s := spelt(exprWords(around))
	for _, kid := range x.Kids {
		s = strings.Replace(s, hole, bracketed(r, kid), 1)
	}
	more := 1 + r.Intn(2)
	return many(more, "(") + s + many(more, ")")
}

// P9.3: each tree that Parse tells is right, and its text is told, the same one however what was read was written.
func TestWhatIsRead(t *testing.T) {
	r := rand.New(rand.NewSource(96))
	d := drawerOf(97, 0)
	for range 1500 {
		q := d.query()
		must, e := printer.Print(q)
		if e != api.OK {
			continue
		}
		s := varied(t, r, must)
		back, at, e := syntax.Parse(s)
		if e != api.OK || !sameQuery(back, q) {
			t.Fatalf("%s: %s, %d, %v", short(s), short(back), at, e)
		}
		if again, e := printer.Print(back); again != must || e != api.OK {
			t.Errorf("of %s: %s, %v, want %s", short(s), short(again), e, short(must))
		}
	}
}

// P9.3: the same of expressions; the brackets that stand in no need of standing are gone.
func TestWhatIsReadOfExprs(t *testing.T) {
	r := rand.New(rand.NewSource(98))
	d, read := drawerOf(99, 0), 0
	for range 3000 {
		x := d.wholeExpr()
		must := spelt(exprWords(x))
		for _, s := range []string{bracketed(r, x), varied(t, r, must), must} {
			back, at, e := syntax.ParseExpr(s)
			if e == api.ErrSyntaxDeep {
				continue
			}
			if e != api.OK || !sameExpr(back, x) {
				t.Fatalf("%s: %s, %d, %v", short(s), short(back), at, e)
			}
			read++
			if again, e := printer.PrintExpr(back); again != must || e != api.OK {
				t.Errorf("of %s: %s, %v, want %s", short(s), short(again), e, short(must))
			}
		}
	}
	if read < 8000 {
		t.Errorf("%d alone are read", read)
	}
}

// P9.1, P9.3: each pair of brackets in a text that is no function's is needed: without it the text is read otherwise, or not at all.
func TestEachBracketIsNeeded(t *testing.T) {
	d, pairs := drawerOf(100, 0), 0
	for range 2000 {
		x := d.wholeExpr()
		s, _ := printer.PrintExpr(x)
		l, _, _ := lex.Lex(s)
		var open []int
		for i, w := range l {
			switch {
			case w.Kind == api.TokSign && w.Text == "(":
				open = append(open, i)
			case w.Kind == api.TokSign && w.Text == ")":
				from := open[len(open)-1]
				open = open[:len(open)-1]
				if from > 0 && l[from-1].Kind == api.TokKey && strings.Contains("LENGTH COUNT SUM MIN MAX", l[from-1].Text) {
					continue
				}
				pairs++
				without := s[:l[from].At] + " " + s[l[from].At+1:w.At] + " " + s[w.At+1:]
				if back, _, e := syntax.ParseExpr(without); e == api.OK && sameExpr(back, x) {
					t.Errorf("%s is read as %s", short(without), short(s))
				}
			}
		}
	}
	if pairs < 1000 {
		t.Errorf("%d pairs alone", pairs)
	}
}

// P9.3: all short texts of some words: what is read has a text, which is read as it, and is the text of that again.
func TestAllShortTexts(t *testing.T) {
	read := 0
	var goOn func(ahead string, more int, l []string)
	goOn = func(ahead string, more int, l []string) {
		if x, _, e := syntax.ParseExpr(ahead); e == api.OK {
			read++
			s, e := printer.PrintExpr(x)
			back, at, not := syntax.ParseExpr(s)
			if e != api.OK || at != 0 || not != api.OK || !sameExpr(back, x) {
				t.Errorf("%s: %s, %v, which is read as %s, %v", ahead, s, e, short(back), not)
			}
			if again, e := printer.PrintExpr(back); again != s || e != api.OK {
				t.Errorf("%s: %s, then %s, %v", ahead, s, again, e)
			}
		} else if e != api.ErrSyntax {
			t.Errorf("%s: %v", ahead, e)
		}
		for _, w := range l {
			if more > 0 {
				goOn(ahead+w+" ", more-1, l)
			}
		}
	}
	goOn("", 5, strings.Fields("a NOT - + * = AND ( )"))
	goOn("", 4, strings.Fields("a 1 'x' . NULL TRUE IS NOT OR < / COUNT( SUM( * )"))
	goOn("( a ", 5, strings.Fields("b ) OR AND = - * IS NULL"))
	if read < 700 {
		t.Errorf("%d alone are read", read)
	}
}

// P9.3: the text of what is read may be too long, as it has more blanks, and is told else.
func TestLongerThanRead(t *testing.T) {
	for n := 1000; n <= 1030; n++ {
		tight := "a" + many(n, "+1")
		x, _, e := syntax.ParseExpr(tight)
		if e != api.OK {
			t.Fatalf("%s: %v", short(tight), e)
		}
		s, e := printer.PrintExpr(x)
		if must := "a" + many(n, " + 1"); len(must) <= maxQuery && (s != must || e != api.OK) || len(must) > maxQuery && (s != "" || e != api.ErrTooMany) {
			t.Errorf("%d: %s, %v", n, short(s), e)
		}
	}
	for _, s := range []string{"'" + many(maxQuery-2, "x") + "'", many(maxQuery-1, " ") + "a", many(maxDeep, "(") + "a" + many(maxDeep, ")"), many(maxDeep, "-") + "1", many(maxDeep, "not ") + "a", many(maxQuery-3, "0") + "1"} {
		x, _, e := syntax.ParseExpr(s)
		if e != api.OK {
			t.Fatalf("%s: %v", short(s), e)
		}
		if _, e := printer.PrintExpr(x); e != api.OK {
			t.Errorf("%s: %v", short(s), e)
		}
	}
}

// Whatever is read has a text, if it is not too long, which is read as it.
func FuzzRead(f *testing.F) {
	f.Add("match (a:A)-[e:E*1..2]->()<-[:F*shortest 3]-(b) where not (a.x = 'it\\'s') return distinct a, b as n order by n desc, m asc limit 3")
	f.Add("MATCH (a), () RETURN COUNT(*) - (-1 * (2 % a)) IS NOT NULL, MAX(LENGTH((p)))")
	f.Fuzz(func(t *testing.T, s string) {
		if q, _, e := syntax.Parse(s); e == api.OK {
			own, e := printer.Print(q)
			back, _, not := syntax.Parse(own)
			if e != api.ErrTooMany && (e != api.OK || not != api.OK || !sameQuery(back, q)) || e == api.ErrTooMany && len(spelt(queryWords(q))) <= maxQuery {
				t.Errorf("%s: %s, %v, which is read as %s, %v", short(s), short(own), e, short(back), not)
			}
		}
		if x, _, e := syntax.ParseExpr(s); e == api.OK {
			own, e := printer.PrintExpr(x)
			back, _, not := syntax.ParseExpr(own)
			if e != api.ErrTooMany && (e != api.OK || not != api.OK || !sameExpr(back, x)) || e == api.ErrTooMany && len(spelt(exprWords(x))) <= maxQuery {
				t.Errorf("%s: %s, %v, which is read as %s, %v", short(s), short(own), e, short(back), not)
			}
		}
	})
}
