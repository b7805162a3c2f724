package syntax_test

import (
	"slices"
	"strings"
	"testing"

	"portolan/api"
	"portolan/lex"
	"portolan/syntax"
)

var theGrammar = newGrammar()

func isWord(w api.Token, words ...string) bool {
	return (w.Kind == api.TokKey || w.Kind == api.TokSign) && slices.Contains(words, w.Text)
}

// endsOne tells whether an expression may end with a word.
func endsOne(w api.Token) bool {
	return w.Kind == api.TokName || w.Kind == api.TokInt || w.Kind == api.TokText || isWord(w, "TRUE", "FALSE", "NULL", ")")
}

// depths are the words ahead whose expressions are not ended yet.
type depths struct {
	open  []string
	exprs bool // are there expressions from here on? Patterns have none
	last  api.Token
}

// closed ends expressions of such words, up to the last other one.
func (d *depths) closed(words ...string) {
	for len(d.open) > 0 && slices.Contains(words, d.open[len(d.open)-1]) {
		d.open = d.open[:len(d.open)-1]
	}
}

// with goes a word on, and tells how deep that word is; 0: it is none that is.
func (d depths) with(w api.Token) (depths, int) {
	last, behindOne := d.last, endsOne(d.last)
	d.last = w
	switch {
	case isWord(w, "WHERE", "RETURN"):
		d.exprs, d.open = true, nil
	case !d.exprs:
	case isWord(w, ",", "AS", "ORDER", "LIMIT"):
		d.open = nil
	case isWord(w, "("), isWord(w, "NOT") && !isWord(last, "IS"), isWord(w, "-") && !behindOne:
		d.open = append(slices.Clip(d.open), w.Text)
		return d, len(d.open)
	case isWord(w, ")"):
		d.closed("-", "NOT")
		d.open = d.open[:len(d.open)-1]
	case isWord(w, "AND", "OR"):
		d.closed("-", "NOT")
	case isWord(w, "+", "-", "*", "/", "%", "=", "<>", "<", "<=", ">", ">=", "IS"):
		d.closed("-")
	}
	return d, 0
}

// beginning is what the model knows of a text's beginning: of the first word that may not stand there where, and why.
type beginning struct {
	chart chart
	deep  depths
	at    int
	e     api.Errno
}

// begun is nothing yet of a query, of an expr.
func begun(what string) beginning {
	return beginning{chart: theGrammar.chart(what), deep: depths{exprs: what == "expr"}}
}

// with is the beginning of a word more.
func (b beginning) with(w api.Token) beginning {
	if b.e != api.OK {
		return b
	}
	c, may := b.chart.with(w)
	if !may {
		b.at, b.e = w.At, api.ErrSyntax
		return b
	}
	deep, how := b.deep.with(w)
	b.chart, b.deep = c, deep
	if how > maxDeep {
		b.at, b.e = w.At, api.ErrSyntaxDeep
	}
	return b
}

// ended is where and why that is refused, if the text ends there.
func (b beginning) ended(long int) (int, api.Errno) {
	if b.e == api.OK && !b.chart.whole() {
		return long, api.ErrSyntax
	}
	return b.at, b.e
}

// lastOf is the place of the last one of these words that joins two expressions, and is in no brackets; or -1.
func lastOf(l []api.Token, words ...string) int {
	inside := 0
	for i := len(l) - 1; i > 0; i-- {
		if isWord(l[i], ")") {
			inside++
		}
		if isWord(l[i], "(") {
			inside--
		}
		if inside == 0 && isWord(l[i], words...) && endsOne(l[i-1]) {
			return i
		}
	}
	return -1
}

// joining are the words that join two expressions, what binds least ahead.
func joining() []map[string]api.Op {
	return []map[string]api.Op{
		{"OR": api.OpOr},
		{"AND": api.OpAnd},
		{"=": api.OpEq, "<>": api.OpNe, "<": api.OpLt, "<=": api.OpLe, ">": api.OpGt, ">=": api.OpGe, "IS": api.OpIsNull},
		{"+": api.OpAdd, "-": api.OpSub},
		{"*": api.OpMul, "/": api.OpDiv, "%": api.OpRest},
	}
}

// plainExpr is the tree of words that are an expression: these are divided at the last one of the words that bind least.
func plainExpr(l []api.Token) api.Expr {
	for i, level := range joining() {
		var words []string
		for w := range level {
			words = append(words, w)
		}
		if i == 2 && isWord(l[0], "NOT") {
			return made(api.OpNot, plainExpr(l[1:]))
		}
		at := lastOf(l, words...)
		switch {
		case at < 0:
		case isWord(l[at], "IS") && isWord(l[at+1], "NOT"):
			return made(api.OpNotNull, plainExpr(l[:at]))
		case isWord(l[at], "IS"):
			return made(api.OpIsNull, plainExpr(l[:at]))
		default:
			return made(level[l[at].Text], plainExpr(l[:at]), plainExpr(l[at+1:]))
		}
	}
	if isWord(l[0], "-") {
		return made(api.OpNeg, plainExpr(l[1:]))
	}
	return plainest(l)
}

// plainest is the tree of words that nothing joins.
func plainest(l []api.Token) api.Expr {
	if isWord(l[len(l)-1], ")") {
		if isWord(l[0], "(") {
			return plainExpr(l[1 : len(l)-1])
		}
		if isWord(l[0], "COUNT") && isWord(l[2], "*") {
			return made(api.OpCountAll)
		}
		of := map[string]api.Op{"LENGTH": api.OpLength, "COUNT": api.OpCount, "SUM": api.OpSum, "MIN": api.OpMin, "MAX": api.OpMax}
		return made(of[l[0].Text], plainExpr(l[2:len(l)-1]))
	}
	switch {
	case l[0].Kind == api.TokInt:
		return integer(l[0].Int)
	case l[0].Kind == api.TokText:
		return text(l[0].Text)
	case l[0].Kind == api.TokName && len(l) == 1:
		return name(l[0].Text)
	case l[0].Kind == api.TokName:
		return prop(l[0].Text, l[2].Text)
	case isWord(l[0], "NULL"):
		return null()
	}
	return truth(l[0].Text == "TRUE")
}

// divided are the lists between commas that are in no brackets.
func divided(l []api.Token) [][]api.Token {
	var all [][]api.Token
	from, inside := 0, 0
	for i, w := range l {
		switch {
		case isWord(w, "(", "["):
			inside++
		case isWord(w, ")", "]"):
			inside--
		case isWord(w, ",") && inside == 0:
			all = append(all, l[from:i])
			from = i + 1
		}
	}
	return append(all, l[from:])
}

// namesIn are the name and the label among words.
func namesIn(l []api.Token) (string, string) {
	var own, label string
	for i, w := range l {
		if w.Kind == api.TokName && isWord(l[i-1], ":") {
			label = w.Text
		} else if w.Kind == api.TokName {
			own = w.Text
		}
	}
	return own, label
}

func plainPattern(l []api.Token) api.Pattern {
	var p api.Pattern
	for len(l) > 0 {
		end := slices.IndexFunc(l, func(w api.Token) bool { return isWord(w, ")") }) + 1
		if begin := slices.IndexFunc(l, func(w api.Token) bool { return isWord(w, "(") }); begin > 0 {
			p.Edges = append(p.Edges, plainEdge(l[:begin]))
		}
		var n api.NodePat
		n.Var, n.Label = namesIn(l[slices.IndexFunc(l, func(w api.Token) bool { return isWord(w, "(") }):end])
		p.Nodes = append(p.Nodes, n)
		l = l[end:]
	}
	return p
}

func plainEdge(l []api.Token) api.EdgePat {
	e := api.EdgePat{Back: isWord(l[0], "<")}
	e.Var, e.Label = namesIn(l)
	var numbers []int
	for _, w := range l {
		if w.Kind == api.TokInt {
			numbers = append(numbers, int(w.Int))
		}
	}
	switch len(numbers) {
	case 1:
		e.Mode, e.Max = api.EdgeShort, numbers[0]
	case 2:
		e.Mode, e.Min, e.Max = api.EdgeTrail, numbers[0], numbers[1]
	}
	return e
}

// plainQuery is the tree of words that are a query: these are divided at the keys that stand there alone.
func plainQuery(l []api.Token) api.Query {
	q := api.Query{Limit: -1}
	cut := func(key string) []api.Token {
		at := slices.IndexFunc(l, func(w api.Token) bool { return isWord(w, key) })
		if at < 0 {
			return nil
		}
		behind := l[at+1:]
		l = l[:at]
		return behind
	}
	if behind := cut("LIMIT"); behind != nil {
		q.Limit = int(behind[0].Int)
	}
	if behind := cut("ORDER"); behind != nil {
		for _, k := range divided(behind[1:]) {
			q.Keys = append(q.Keys, api.Key{Name: k[0].Text, Desc: isWord(k[len(k)-1], "DESC")})
		}
	}
	items := cut("RETURN")
	if q.Distinct = isWord(items[0], "DISTINCT"); q.Distinct {
		items = items[1:]
	}
	for _, i := range divided(items) {
		n := len(i)
		if n > 2 && isWord(i[n-2], "AS") {
			q.Items = append(q.Items, api.Item{Expr: plainExpr(i[:n-2]), Name: i[n-1].Text})
		} else {
			q.Items = append(q.Items, api.Item{Expr: plainExpr(i)})
		}
	}
	if behind := cut("WHERE"); behind != nil {
		q.Where = []api.Expr{plainExpr(behind)}
	}
	for _, p := range divided(l[1:]) {
		q.Patterns = append(q.Patterns, plainPattern(p))
	}
	return q
}

// check holds what comes of a text against what the model tells of its words.
func check(t *testing.T, what, s string, words []api.Token, at int, e api.Errno) {
	t.Helper()
	switch {
	case what == "query" && e == api.OK:
		wantQuery(t, s, plainQuery(words))
	case what == "query":
		wantNoQuery(t, s, at, e)
	case e == api.OK:
		x, gotAt, got := syntax.ParseExpr(s)
		if must := plainExpr(words); !sameExpr(x, must) || gotAt != 0 || got != api.OK {
			t.Errorf("ParseExpr(%s): %s, %d, %v, want %s, 0, OK", short(s), short(x), gotAt, got, short(must))
		}
	default:
		wantNoExpr(t, s, at, e)
	}
}

// asPlain holds what comes of a text against the model, and tells what came.
func asPlain(t *testing.T, what, s string) api.Errno {
	t.Helper()
	words, at, e := lex.Lex(s)
	if e == api.OK {
		b := begun(what)
		for _, w := range words {
			b = b.with(w)
		}
		at, e = b.ended(len(s))
	}
	check(t, what, s, words, at, e)
	return e
}

// word is a text's one word.
func word(s string) api.Token {
	l, _, e := lex.Lex(s)
	if e != api.OK || len(l) != 1 {
		panic("no word: " + s)
	}
	return l[0]
}

// allWords are a word of each kind that the grammar tells apart.
func allWords() []string {
	keys := "MATCH WHERE RETURN DISTINCT ORDER BY ASC DESC LIMIT AS AND OR NOT IS NULL TRUE FALSE SHORTEST LENGTH COUNT SUM MIN MAX"
	signs := "<> <= >= .. ( ) [ ] - > < , : . = + * / %"
	return append(strings.Fields(keys+" "+signs), "a", "0", "1", "8", "9", "1099511627776", "1099511627777", "'('", "'NULL'", "''")
}
