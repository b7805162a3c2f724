package syntax_test

import (
	"math"
	"strings"
	"testing"

	"portolan/api"
	"portolan/syntax"
)

// P8.1: each expression that has no others in it.
func TestPlain(t *testing.T) {
	for s, x := range map[string]api.Expr{
		"0": integer(0), "1": integer(1), "007": integer(7), "9223372036854775807": integer(math.MaxInt64),
		"''": text(""), "'a'": text("a"), `'it\'s\\\n'`: text("it's\\\n"), "'été × 🜁'": text("été × 🜁"), "'MATCH'": text("MATCH"), "'('": text("("), "'NULL'": text("NULL"), "'TRUE'": text("TRUE"), "'COUNT(*)'": text("COUNT(*)"), "'*'": text("*"), "'1'": text("1"), "'NOT'": text("NOT"), "'-'": text("-"),
		"TRUE": truth(true), "FALSE": truth(false), "NULL": null(), "true": truth(true), "False": truth(false), "nULL": null(),
		"a": name("a"), "été": name("été"), "_": name("_"), "a.x": prop("a", "x"), "a . x": prop("a", "x"), "x.x": prop("x", "x"), "été.É": prop("été", "É"),
		"COUNT(*)": made(api.OpCountAll), "count ( * )": made(api.OpCountAll),
	} {
		wantExpr(t, s, x)
		wantExpr(t, "("+s+")", x)
		wantExpr(t, "((("+s+")))", x)
	}
}

// P8.1: each expression of one, and of two.
func TestOfOthers(t *testing.T) {
	for s, x := range map[string]api.Expr{"a": name("a"), "a.x": prop("a", "x"), "1": integer(1), "NULL": null(), "(a OR b)": made(api.OpOr, name("a"), name("b")), "COUNT(*)": made(api.OpCountAll)} {
		wantExpr(t, "NOT "+s, made(api.OpNot, x))
		wantExpr(t, "-"+s, made(api.OpNeg, x))
		wantExpr(t, s+" IS NULL", made(api.OpIsNull, x))
		wantExpr(t, s+" IS NOT NULL", made(api.OpNotNull, x))
		for key, op := range functions() {
			wantExpr(t, key+"("+s+")", made(op, x))
			wantExpr(t, key+" (\n"+s+" )", made(op, x))
			wantExpr(t, key+"(NOT "+s+")", made(op, made(api.OpNot, x)))
			wantExpr(t, key+"(("+s+"))", made(op, x))
		}
		for sign, op := range signsOfTwo() {
			wantExpr(t, s+" "+sign+" b", made(op, x, name("b")))
			wantExpr(t, "b "+sign+" "+s, made(op, name("b"), x))
			wantExpr(t, s+" "+sign+" "+s, made(op, x, x))
		}
	}
}

func functions() map[string]api.Op {
	return map[string]api.Op{"LENGTH": api.OpLength, "COUNT": api.OpCount, "SUM": api.OpSum, "MIN": api.OpMin, "MAX": api.OpMax}
}

func signsOfTwo() map[string]api.Op {
	return map[string]api.Op{"OR": api.OpOr, "AND": api.OpAnd, "=": api.OpEq, "<>": api.OpNe, "<": api.OpLt, "<=": api.OpLe, ">": api.OpGt, ">=": api.OpGe, "+": api.OpAdd, "-": api.OpSub, "*": api.OpMul, "/": api.OpDiv, "%": api.OpRest}
}

// level is how much a word binds what stands beside it.
func level(sign string) int {
	switch sign {
	case "OR":
		return 1
	case "AND":
		return 2
	case "+", "-":
		return 5
	case "*", "/", "%":
		return 6
	}
	return 4
}

// P8.1: each of two against each of two: what binds more goes together, what binds alike from the left; tests can't be chained.
func TestLevels(t *testing.T) {
	a, b, c := name("a"), name("b"), name("c")
	for first, op := range signsOfTwo() {
		for second, other := range signsOfTwo() {
			s := "a " + first + " b " + second + " c"
			switch {
			case level(first) == 4 && level(second) == 4:
				wantNoExpr(t, s, len("a "+first+" b "), api.ErrSyntax)
			case level(first) >= level(second):
				wantExpr(t, s, made(other, made(op, a, b), c))
			default:
				wantExpr(t, s, made(op, a, made(other, b, c)))
			}
			wantExpr(t, "(a "+first+" b) "+second+" c", made(other, made(op, a, b), c))
			wantExpr(t, "a "+first+" (b "+second+" c)", made(op, a, made(other, b, c)))
		}
	}
}

// P8.1: each of two against each of one.
func TestLevelsOfOne(t *testing.T) {
	a, b := name("a"), name("b")
	for sign, op := range signsOfTwo() {
		two := "a " + sign + " b"
		wantExpr(t, "-"+two, made(op, made(api.OpNeg, a), b))
		wantExpr(t, "a "+sign+" -b", made(op, a, made(api.OpNeg, b)))
		wantExpr(t, "-("+two+")", made(api.OpNeg, made(op, a, b)))
		wantExpr(t, "NOT ("+two+")", made(api.OpNot, made(op, a, b)))
		wantExpr(t, "("+two+") IS NULL", made(api.OpIsNull, made(op, a, b)))
		switch {
		case level(sign) < 3:
			wantExpr(t, "NOT "+two, made(op, made(api.OpNot, a), b))
			wantExpr(t, "a "+sign+" NOT b", made(op, a, made(api.OpNot, b)))
			wantExpr(t, two+" IS NULL", made(op, a, made(api.OpIsNull, b)))
			wantExpr(t, "a IS NOT NULL "+sign+" b", made(op, made(api.OpNotNull, a), b))
			continue
		case level(sign) > 4:
			wantExpr(t, two+" IS NULL", made(api.OpIsNull, made(op, a, b)))
			wantExpr(t, two+" IS NOT NULL", made(api.OpNotNull, made(op, a, b)))
		default:
			wantNoExpr(t, two+" IS NULL", len(two)+1, api.ErrSyntax)
			wantNoExpr(t, two+" IS NOT NULL", len(two)+1, api.ErrSyntax)
		}
		wantExpr(t, "NOT "+two, made(api.OpNot, made(op, a, b)))
		wantNoExpr(t, "a "+sign+" NOT b", len("a "+sign+" "), api.ErrSyntax)
		wantNoExpr(t, "a IS NULL "+sign+" b", len("a IS NULL "), api.ErrSyntax)
		wantNoExpr(t, "a IS NOT NULL "+sign+" b", len("a IS NOT NULL "), api.ErrSyntax)
	}
}

// P8.1: NOT of NOT, `-` of `-`, and each of the other.
func TestOneOfOne(t *testing.T) {
	a := name("a")
	not, neg := func(x api.Expr) api.Expr { return made(api.OpNot, x) }, func(x api.Expr) api.Expr { return made(api.OpNeg, x) }
	wantExpr(t, "NOT NOT a", not(not(a)))
	wantExpr(t, "not NOT Not a", not(not(not(a))))
	wantExpr(t, "--a", neg(neg(a)))
	wantExpr(t, "- - - a.x", neg(neg(neg(prop("a", "x")))))
	wantExpr(t, "NOT -a", not(neg(a)))
	wantExpr(t, "-(NOT a)", neg(not(a)))
	wantNoExpr(t, "-NOT a", 1, api.ErrSyntax)
	wantNoExpr(t, "--NOT a", 2, api.ErrSyntax)
	wantExpr(t, "NOT a IS NULL", not(made(api.OpIsNull, a)))
	wantExpr(t, "NOT NOT a IS NOT NULL", not(not(made(api.OpNotNull, a))))
	wantExpr(t, "(NOT a) IS NULL", made(api.OpIsNull, not(a)))
	wantExpr(t, "-a IS NULL", made(api.OpIsNull, neg(a)))
	wantExpr(t, "-9223372036854775807", neg(integer(math.MaxInt64)))
	wantNoExpr(t, "-9223372036854775808", 1, api.ErrLexNumber)
	wantExpr(t, "a - -1", made(api.OpSub, a, neg(integer(1))))
	wantExpr(t, "a--1", made(api.OpSub, a, neg(integer(1))))
	wantExpr(t, "a - - - 1", made(api.OpSub, a, neg(neg(integer(1)))))
	wantExpr(t, "a<-1", made(api.OpLt, a, neg(integer(1))))
	wantExpr(t, "-a.x * -b", made(api.OpMul, neg(prop("a", "x")), neg(name("b"))))
	wantExpr(t, "NOT a AND NOT b OR NOT NOT c", made(api.OpOr, made(api.OpAnd, not(a), not(name("b"))), not(not(name("c")))))
}

// P8.1: three and more of one level go together from the left.
func TestFromTheLeft(t *testing.T) {
	a, b, c, d := name("a"), name("b"), name("c"), name("d")
	for sign, op := range signsOfTwo() {
		if level(sign) == 4 {
			continue
		}
		s := " " + sign + " "
		wantExpr(t, "a"+s+"b"+s+"c"+s+"d", made(op, made(op, made(op, a, b), c), d))
		wantExpr(t, "a"+s+"(b"+s+"(c"+s+"d))", made(op, a, made(op, b, made(op, c, d))))
		wantExpr(t, "(a"+s+"b)"+s+"(c"+s+"d)", made(op, made(op, a, b), made(op, c, d)))
	}
	wantExpr(t, "a - b + c", made(api.OpAdd, made(api.OpSub, a, b), c))
	wantExpr(t, "a / b * c % d", made(api.OpRest, made(api.OpMul, made(api.OpDiv, a, b), c), d))
	wantExpr(t, "a + b * c - d", made(api.OpSub, made(api.OpAdd, a, made(api.OpMul, b, c)), d))
	wantExpr(t, "a OR b AND c OR d", made(api.OpOr, made(api.OpOr, a, made(api.OpAnd, b, c)), d))
	wantExpr(t, "a AND b OR c AND d", made(api.OpOr, made(api.OpAnd, a, b), made(api.OpAnd, c, d)))
	wantExpr(t, "a = b AND c < d OR a IS NULL", made(api.OpOr, made(api.OpAnd, made(api.OpEq, a, b), made(api.OpLt, c, d)), made(api.OpIsNull, a)))
	wantExpr(t, "a + b < c * d", made(api.OpLt, made(api.OpAdd, a, b), made(api.OpMul, c, d)))
}

// P8.1: tests can't be chained, but for brackets.
func TestChainedTests(t *testing.T) {
	for s, at := range map[string]int{"a = b = c": 6, "a < b < c": 6, "a < b >= c": 6, "a IS NULL IS NULL": 10, "a IS NULL IS NOT NULL": 10, "a IS NOT NULL IS NULL": 14, "a = b IS NULL": 6, "a IS NULL = b": 10, "NOT a = b = c": 10, "a = NOT b": 4, "a AND b = c = d": 12, "(a = b) = c = d": 12, "a IS NULL + 1": 10, "a = b + c <> d": 10} {
		wantNoExpr(t, s, at, api.ErrSyntax)
	}
	a, b, c := name("a"), name("b"), name("c")
	wantExpr(t, "(a = b) = c", made(api.OpEq, made(api.OpEq, a, b), c))
	wantExpr(t, "a = (b = c)", made(api.OpEq, a, made(api.OpEq, b, c)))
	wantExpr(t, "(a IS NULL) IS NOT NULL", made(api.OpNotNull, made(api.OpIsNull, a)))
	wantExpr(t, "(a = b) IS NULL", made(api.OpIsNull, made(api.OpEq, a, b)))
	wantExpr(t, "a = (NOT b)", made(api.OpEq, a, made(api.OpNot, b)))
}

// P8.1: places at which a word may not stand, in expressions.
func TestNoExprs(t *testing.T) {
	for s, at := range map[string]int{
		"": 0, " ": 1, "\t\n": 2, "NOT": 3, "NOT ": 4, "-": 1, "(": 1, "()": 1, "(a": 2, "(a ": 3, "(a b)": 3, "a)": 1, ")": 0, "a (": 2, "a(b)": 1, "(a))": 3, "((a)": 4, "(a)(b)": 3, "(a, b)": 2, "a b": 2, "1 2": 2, "1a": 1, "'a' 'b'": 4, "a 1": 2, "a 'b'": 2, "a NULL": 2,
		"a.": 2, ".x": 0, "a..x": 1, "a.1": 2, "a.'x'": 2, "a.b.c": 3, "a.(x)": 2, "1.x": 1, "'a'.x": 3, "(a).x": 3, "NULL.x": 4, "a. .x": 3, "a.*": 2, "a.NULL": 2, "COUNT.x": 5,
		"a +": 3, "+ a": 0, "+a": 0, "a + + b": 4, "a * * b": 4, "* a": 0, "/": 0, "a /": 3, "a % % b": 4, "a * / b": 4, "a + * b": 4, "a - * b": 4, "- * a": 2, "a =": 3, "= a": 0, "a = = b": 4, "a == b": 3, "a < > b": 4, "a =< b": 3, "a => b": 3, "a > = b": 4, "a <> = b": 5, "a < = b": 4, "< a": 0,
		"a AND": 5, "AND a": 0, "a AND AND b": 6, "a AND OR b": 6, "a OR": 4, "OR": 0, "a OR OR b": 5, "NOT AND a": 4, "a NOT b": 2, "a AND NOT": 9, "NOT NOT": 7, "a NOT": 2, "a NOT NULL": 2,
		"a IS": 4, "IS NULL": 0, "a IS b": 5, "a IS TRUE": 5, "a IS NOT": 8, "a IS NOT b": 9, "a IS NOT NOT NULL": 9, "a IS (NULL)": 5, "a IS 'NULL'": 5, "a IS NULL b": 10, "a IS = b": 5, "a IS -b": 5, "NOT IS NULL": 4, "a IS IS NULL": 5,
		"LENGTH": 6, "LENGTH a": 7, "LENGTH(": 7, "LENGTH()": 7, "LENGTH(*)": 7, "LENGTH(a, b)": 8, "LENGTH(a": 8, "SUM(*)": 4, "MIN(*)": 4, "MAX(*)": 4, "MAX()": 4, "MIN a": 4, "SUM": 3, "SUM)": 3, "SUM['a']": 3, "MAX(a b)": 6,
		"COUNT": 5, "COUNT *": 6, "COUNT(": 6, "COUNT()": 6, "COUNT(*": 7, "COUNT(**)": 7, "COUNT(* a)": 8, "COUNT(*, a)": 7, "COUNT(a *)": 9, "COUNT(a, *)": 7, "COUNT(DISTINCT a)": 6, "COUNT(*))": 8, "COUNT((*))": 7, "COUNT(-*)": 7, "COUNT(NOT *)": 10, "COUNT COUNT(*)": 6, "COUNT'('*)": 5, "COUNT(*)(*)": 8, "COUNT(*) *": 10, "COUNT(*).x": 8, "COUNT(a": 7,
		"[a]": 0, "a[1]": 1, "a:b": 1, ":a": 0, "a, b": 1, ",": 0, "..": 0, "1..2": 1, "a AS n": 2, "MATCH": 0, "RETURN a": 0, "WHERE a": 0, "DISTINCT a": 0, "ASC": 0, "DESC": 0, "ORDER": 0, "BY": 0, "LIMIT": 0, "SHORTEST": 0, "AS": 0, "IS": 0, "a LIMIT 1": 2, "a ORDER BY n": 2, "a DESC": 2, "a WHERE b": 2, "TRUE FALSE": 5, "NULL NULL": 5, "TRUE(a)": 4, "'COUNT'(*)": 7, "'NOT' a": 6, "a '=' b": 2, "'(' a ')'": 4, "a 'AND' b": 2, "a 'IS' NULL": 2,
	} {
		wantNoExpr(t, s, at, api.ErrSyntax)
		for _, ahead := range []string{"\nTRUE AND ", "(-a.x) IS NULL OR NOT NOT "} {
			wantNoExpr(t, ahead+s, len(ahead)+at, api.ErrSyntax)
		}
	}
}

// P1: long expressions, however they are built, end, and no rule calls another without end.
func TestLongExprs(t *testing.T) {
	for sign, op := range signsOfTwo() {
		if level(sign) == 4 {
			continue
		}
		part := " " + sign + " a"
		count := (maxQuery - 1) / len(part)
		x, at, e := syntax.ParseExpr("a" + strings.Repeat(part, count))
		if at != 0 || e != api.OK {
			t.Fatalf("%s: %d, %v", sign, at, e)
		}
		for range count {
			if x.Op != op || len(x.Kids) != 2 || !sameExpr(x.Kids[1], name("a")) {
				t.Fatalf("%s: %s", sign, short(x))
			}
			x = x.Kids[0]
		}
		if !sameExpr(x, name("a")) {
			t.Errorf("%s: the first one is %s", sign, short(x))
		}
	}
	for _, w := range allWords() {
		s := strings.Repeat(w+" ", maxQuery/(len(w)+1))
		if _, _, e := syntax.ParseExpr(s); e == api.OK {
			t.Errorf("%s is an expression", short(s))
		}
		if _, _, e := syntax.Parse(s); e == api.OK {
			t.Errorf("%s is a query", short(s))
		}
	}
}
