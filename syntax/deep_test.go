package syntax_test

import (
	"strings"
	"testing"

	"portolan/api"
)

// opener is a word that makes what is behind it one deeper: the text from it on, where in that text it stands, and what ends its expression.
type opener struct {
	text string
	at   int
	end  string
}

func openers() map[string]opener {
	return map[string]opener{
		"(":      {"(", 0, ")"},
		"NOT":    {"NOT ", 0, ""},
		"-":      {"-", 0, ""},
		"LENGTH": {"LENGTH(", 6, ")"},
		"COUNT":  {"COUNT (", 6, ")"},
		"SUM":    {"sum(", 3, ")"},
		"MIN":    {"MIN\n(", 4, ")"},
		"MAX":    {"max(", 3, ")"},
	}
}

// nested is x within so many expressions of that opener, and that text.
func nested(key string, count int, x api.Expr, s string) (api.Expr, string) {
	o := openers()[key]
	for range count {
		switch key {
		case "(":
		case "NOT":
			x = made(api.OpNot, x)
		case "-":
			x = made(api.OpNeg, x)
		default:
			x = made(functions()[key], x)
		}
	}
	return x, strings.Repeat(o.text, count) + s + strings.Repeat(o.end, count)
}

// P8.1: 50 deep and 51 deep, of each that counts.
func TestDeepOfOneKind(t *testing.T) {
	for key, o := range openers() {
		for _, count := range []int{1, 49, 50} {
			x, s := nested(key, count, name("a"), "a")
			wantExpr(t, s, x)
		}
		for _, count := range []int{51, 52, 53, 100, 200, 400} {
			_, s := nested(key, count, name("a"), "a")
			at := maxDeep*len(o.text) + o.at
			wantNoExpr(t, s, at, api.ErrSyntaxDeep)
			wantNoExpr(t, " 1 = 2 AND "+s, 11+at, api.ErrSyntaxDeep)
			if len(s) < 2000 {
				wantNoQuery(t, "MATCH () RETURN "+s, 16+at, api.ErrSyntaxDeep)
				wantNoQuery(t, "MATCH () RETURN a, "+s+" AS n", 19+at, api.ErrSyntaxDeep)
				wantNoQuery(t, "MATCH () WHERE "+s+" RETURN a", 15+at, api.ErrSyntaxDeep)
			}
		}
	}
}

// P8.1: each kind inside of each other one, wherever the one ends and the other begins.
func TestDeepOfTwoKinds(t *testing.T) {
	for outer, out := range openers() {
		for inner, in := range openers() {
			if outer == "-" && inner == "NOT" {
				continue // no NOT may stand there
			}
			for _, count := range []int{1, 20, 49} {
				x, s := nested(inner, maxDeep-count, integer(1), "1")
				x, s = nested(outer, count, x, s)
				wantExpr(t, s, x)
				_, s = nested(inner, maxDeep-count+1, integer(1), "1")
				_, s = nested(outer, count, name("a"), s)
				wantNoExpr(t, s, count*len(out.text)+(maxDeep-count)*len(in.text)+in.at, api.ErrSyntaxDeep)
			}
		}
	}
}

// P8.1: one behind the other, none is deeper than the first, however many there are.
func TestDeepBehindOneAnother(t *testing.T) {
	for key := range openers() {
		one, s := nested(key, 1, name("a"), "a")
		wantExpr(t, s+strings.Repeat(" AND "+s, 60), inARow(api.OpAnd, one, 60))
		wantExpr(t, s+strings.Repeat(" OR "+s, 60), inARow(api.OpOr, one, 60))
		if key != "NOT" {
			wantExpr(t, s+strings.Repeat(" + "+s, 60), inARow(api.OpAdd, one, 60))
			wantExpr(t, s+strings.Repeat(" * "+s, 60), inARow(api.OpMul, one, 60))
			wantExpr(t, s+" < "+s, made(api.OpLt, one, one))
		}
		full, s := nested(key, maxDeep, name("a"), "a")
		wantExpr(t, s+" AND "+s+" OR "+s, made(api.OpOr, made(api.OpAnd, full, full), full))
		if key != "NOT" {
			wantExpr(t, s+" - "+s+" - "+s, made(api.OpSub, made(api.OpSub, full, full), full))
			wantExpr(t, s+" / "+s+" % "+s, made(api.OpRest, made(api.OpDiv, full, full), full))
			wantExpr(t, s+" IS NULL", made(api.OpIsNull, full))
			wantExpr(t, s+" = "+s, made(api.OpEq, full, full))
		}
		q := asked("a")
		q.Where = []api.Expr{full}
		q.Items = []api.Item{{Expr: full}, {Expr: full, Name: "n"}, {Expr: full}}
		wantQuery(t, "MATCH (a) WHERE "+s+" RETURN "+s+", "+s+" AS n, "+s, q)
	}
}

// inARow is x, and so many times more x, from the left.
func inARow(op api.Op, x api.Expr, more int) api.Expr {
	row := x
	for range more {
		row = made(op, row, x)
	}
	return row
}

// P8.1: what does not count: signs of two, IS NOT, brackets of nodes and edges, a bracket that is closed; LENGTH by itself, as its bracket is what counts.
func TestNotDeeper(t *testing.T) {
	a := name("a")
	open := strings.Repeat("(", maxDeep)
	shut := strings.Repeat(")", maxDeep)
	for s, x := range map[string]api.Expr{
		"a - b":                 made(api.OpSub, a, name("b")),
		"a-b-a-b":               made(api.OpSub, made(api.OpSub, made(api.OpSub, a, name("b")), a), name("b")),
		"a IS NOT NULL":         made(api.OpNotNull, a),
		"a IS NULL":             made(api.OpIsNull, a),
		"a AND b":               made(api.OpAnd, a, name("b")),
		"a * b + 1":             made(api.OpAdd, made(api.OpMul, a, name("b")), integer(1)),
		"a - b IS NOT NULL":     made(api.OpNotNull, made(api.OpSub, a, name("b"))),
		"a.x < 'NOT - ( a )'":   made(api.OpLt, prop("a", "x"), text("NOT - ( a )")),
		"NULL IS NOT NULL":      made(api.OpNotNull, null()),
		"a / b IS NOT NULL":     made(api.OpNotNull, made(api.OpDiv, a, name("b"))),
		"1 - 2 OR 3 - 4 <> 'x'": made(api.OpOr, made(api.OpSub, integer(1), integer(2)), made(api.OpNe, made(api.OpSub, integer(3), integer(4)), text("x"))),
	} {
		wantExpr(t, open+s+shut, x)
	}
	for s, at := range map[string]int{"-a": 0, "NOT a": 0, "(a)": 0, "a - -b": 4, "a AND NOT b": 6, "a * (b)": 4, "a - (b)": 4, "LENGTH(a)": 6, "COUNT(a)": 5, "COUNT(*)": 5, "SUM(a)": 3, "MIN(a)": 3, "MAX(a)": 3, "a IS NOT NULL AND NOT b": 18, "- a": 0, "a = -1": 4, "a OR (b)": 5} {
		wantNoExpr(t, open+s+shut, maxDeep+at, api.ErrSyntaxDeep)
		wantNoExpr(t, open[1:]+"-a + -a "+shut[1:]+" AND "+open+s+shut, 49+8+49+5+maxDeep+at, api.ErrSyntaxDeep)
	}
	wantQuery(t, "MATCH ()"+strings.Repeat(", ()", 60)+" RETURN "+open+"a"+shut, changed(func(q *api.Query) {
		q.Patterns = nil
		for range 61 {
			q.Patterns = append(q.Patterns, api.Pattern{Nodes: []api.NodePat{{}}})
		}
	}))
}

// P8.1: a word ends the expressions that it is no part of: how deep the next one is shows which.
func TestWhatEndsAnExpression(t *testing.T) {
	// Each text takes one level up to its hole; of what stands in the hole 49 levels go, or 50.
	for s, levels := range map[string]int{
		"-a + ?": 0, "-a * ?": 0, "-a = ?": 0, "NOT a AND ?": 0, "NOT a OR ?": 0, "(a) + ?": 0, "LENGTH(a) * ?": 0, "COUNT(*) = ?": 0, "-a IS NULL AND ?": 0, "NOT a IS NOT NULL OR ?": 0, "--a - ?": 0, "NOT NOT a AND ?": 0, "(NOT -a) = ?": 0, "-(a) % ?": 0, "NOT (a) AND ?": 0,
		"NOT a = ?": 1, "NOT a + ?": 1, "NOT a * ?": 1, "NOT -a < ?": 1, "NOT NOT a = ?": 2, "(a + ?)": 1, "(-a + ?)": 1, "(a AND ?)": 1, "(NOT a OR ?)": 1, "-(a - ?)": 2, "-(-a - ?)": 2, "NOT (a = ?)": 2, "SUM(-a * ?)": 1, "NOT (NOT a AND ?)": 2, "(NOT a * ?)": 2, "- -?": 2, "NOT -?": 2, "MAX(NOT a = ?)": 2, "((a) + (b) - ?)": 1, "-a = b AND (NOT c OR NOT d = ?)": 2, "NOT COUNT(*) = ?": 1,
	} {
		for _, key := range []string{"(", "-", "LENGTH"} {
			o := openers()[key]
			_, fits := nested(key, maxDeep-levels, integer(1), "1")
			_, more := nested(key, maxDeep-levels+1, integer(1), "1")
			if e := asPlain(t, "expr", strings.Replace(s, "?", fits, 1)); e != api.OK {
				t.Errorf("%s with %d of %s: %v", s, maxDeep-levels, key, e)
			}
			at := strings.Index(s, "?") + (maxDeep-levels)*len(o.text) + o.at
			wantNoExpr(t, strings.Replace(s, "?", more, 1), at, api.ErrSyntaxDeep)
		}
	}
}

// P8.1: words are taken one by one: what is told is the first word that may not stand there, be it too deep or out of place.
func TestDeepAndOutOfPlace(t *testing.T) {
	deep := strings.Repeat("(", maxDeep+1)
	wantNoExpr(t, deep, maxDeep, api.ErrSyntaxDeep)
	wantNoExpr(t, deep+")", maxDeep, api.ErrSyntaxDeep)
	wantNoExpr(t, deep+"1"+strings.Repeat(")", maxDeep+1)+" 2", maxDeep, api.ErrSyntaxDeep)
	wantNoExpr(t, deep+"1"+strings.Repeat(")", maxDeep), maxDeep, api.ErrSyntaxDeep)
	wantNoExpr(t, ") "+deep, 0, api.ErrSyntax)
	wantNoExpr(t, "a "+deep, 2, api.ErrSyntax)
	wantNoExpr(t, strings.Repeat("(", maxDeep)+"a (", maxDeep+2, api.ErrSyntax)
	wantNoExpr(t, strings.Repeat("(", maxDeep)+"a NOT", maxDeep+2, api.ErrSyntax)
	wantNoExpr(t, strings.Repeat("(", maxDeep)+"1 + NOT", maxDeep+4, api.ErrSyntax)
	wantNoExpr(t, strings.Repeat("(", maxDeep)+"LENGTH", maxDeep+6, api.ErrSyntax)
	wantNoExpr(t, strings.Repeat("(", maxDeep)+"LENGTH a", maxDeep+7, api.ErrSyntax)
	wantNoExpr(t, strings.Repeat("(", maxDeep), maxDeep, api.ErrSyntax)
	wantNoExpr(t, strings.Repeat("-", maxDeep), maxDeep, api.ErrSyntax)
	wantNoExpr(t, strings.Repeat("-", maxQuery), maxDeep, api.ErrSyntaxDeep)
	wantNoExpr(t, strings.Repeat("(", maxQuery), maxDeep, api.ErrSyntaxDeep)
	wantNoExpr(t, strings.Repeat("NOT ", maxQuery/4), 4*maxDeep, api.ErrSyntaxDeep)
	wantNoExpr(t, strings.Repeat("MAX(", maxQuery/4), 4*maxDeep+3, api.ErrSyntaxDeep)
	wantNoQuery(t, "MATCH "+deep, 7, api.ErrSyntax)
	wantNoQuery(t, "MATCH (a)"+strings.Repeat("-", 60), 10, api.ErrSyntax)
	wantNoQuery(t, "MATCH (a) RETURN a, "+deep+" LIMIT x", 20+maxDeep, api.ErrSyntaxDeep)
	wantNoQuery(t, "MATCH (a)-[*9..9]->() RETURN "+deep, 12, api.ErrSyntax)
}
