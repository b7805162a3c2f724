package printer_test

import (
	"testing"

	"portolan/api"
	"portolan/printer"
	"portolan/syntax"
)

// deepener puts something around an expression, whose text is then that ahead, and that behind; it is so much deeper then.
type deepener struct {
	what          func(x api.Expr) api.Expr
	ahead, behind string
	more          int
}

func deepeners() []deepener {
	one := integer(1)
	l := []deepener{
		{func(x api.Expr) api.Expr { return made(api.OpNeg, x) }, "-", "", 1},
		{func(x api.Expr) api.Expr { return made(api.OpSub, one, made(api.OpAdd, x, one)) }, "1 - (", " + 1)", 1},
		{func(x api.Expr) api.Expr { return made(api.OpRest, one, made(api.OpIsNull, x)) }, "1 % (", " IS NULL)", 1},
		{func(x api.Expr) api.Expr { return made(api.OpMul, made(api.OpNotNull, x), one) }, "(", " IS NOT NULL) * 1", 1},
		{func(x api.Expr) api.Expr { return made(api.OpDiv, one, made(api.OpNot, made(api.OpLt, x, one))) }, "1 / (NOT ", " < 1)", 2},
		{func(x api.Expr) api.Expr { return made(api.OpNeg, made(api.OpOr, made(api.OpGe, x, one), one)) }, "-(", " >= 1 OR 1)", 2},
		{func(x api.Expr) api.Expr { return made(api.OpSum, made(api.OpNeg, x)) }, "SUM(-", ")", 2},
		{func(x api.Expr) api.Expr { return made(api.OpMax, made(api.OpNot, x)) }, "MAX(NOT ", ")", 2},
	}
	for op, ahead := range map[api.Op]string{api.OpLength: "LENGTH(", api.OpCount: "COUNT(", api.OpSum: "SUM(", api.OpMin: "MIN(", api.OpMax: "MAX("} {
		l = append(l, deepener{func(x api.Expr) api.Expr { return made(op, x) }, ahead, ")", 1})
	}
	return l
}

// wantDeep: an expression of that depth has that text, if that is not too deep, and none otherwise.
func wantDeep(t *testing.T, x api.Expr, deep int, must string) {
	t.Helper()
	if deep <= maxDeep {
		wantExpr(t, x, must)
		return
	}
	wantNoExpr(t, x, api.ErrSyntaxTree)
	if _, _, e := syntax.ParseExpr(must); e != api.ErrSyntaxDeep {
		t.Errorf("%s: %v", short(must), e)
	}
}

// P9.1: brackets, `-` and functions up to 50 deep and beyond, around what is none deeper, and around what is.
func TestDeep(t *testing.T) {
	for _, d := range deepeners() {
		for _, core := range []struct {
			x    api.Expr
			text string
			deep int
		}{
			{name("a"), "a", 0},
			{prop("a", "x"), "a.x", 0},
			{text("(((-NOT"), "'(((-NOT'", 0},
			{made(api.OpCountAll), "COUNT(*)", 1},
			{made(api.OpLength, name("p")), "LENGTH(p)", 1},
		} {
			for n := 22; n <= 52; n++ {
				x, text := core.x, core.text
				for range n {
					x, text = d.what(x), d.ahead+text+d.behind
				}
				wantDeep(t, x, n*d.more+core.deep, text)
			}
		}
	}
}

// P9.1: the same of NOT.
func TestDeepNot(t *testing.T) {
	for n := 40; n <= 60; n++ {
		wantDeep(t, within(n, api.OpNot, name("a")), n, many(n, "NOT ")+"a")
		wantDeep(t, within(n, api.OpNot, made(api.OpIsNull, name("a"))), n, many(n, "NOT ")+"a IS NULL")
		wantDeep(t, within(n, api.OpNot, made(api.OpNotNull, name("a"))), n, many(n, "NOT ")+"a IS NOT NULL")
		wantDeep(t, within(n, api.OpNot, made(api.OpSub, name("a"), integer(1))), n, many(n, "NOT ")+"a - 1")
		wantDeep(t, within(n, api.OpNot, made(api.OpSub, name("a"), made(api.OpNeg, integer(1)))), n+1, many(n, "NOT ")+"a - -1")
		wantDeep(t, within(n, api.OpNot, made(api.OpEq, made(api.OpNeg, name("a")), made(api.OpNeg, name("b")))), n+1, many(n, "NOT ")+"-a = -b")
		wantDeep(t, within(n, api.OpNot, made(api.OpCountAll)), n+1, many(n, "NOT ")+"COUNT(*)")
		wantDeep(t, within(n, api.OpNot, made(api.OpAnd, name("a"), name("b"))), n+1, many(n-1, "NOT ")+"NOT (a AND b)")
		wantDeep(t, within(n, api.OpNeg, within(2, api.OpNot, name("a"))), n+3, many(n, "-")+"(NOT NOT a)")
	}
}

// P9.1: what stands beside one another is not deeper, be it as much as it may.
func TestBesideNotDeeper(t *testing.T) {
	for _, one := range []struct {
		x    api.Expr
		text string
	}{
		{within(maxDeep, api.OpNot, name("a")), many(maxDeep, "NOT ") + "a"},
		{within(maxDeep, api.OpNeg, name("a")), many(maxDeep, "-") + "a"},
		{within(maxDeep, api.OpMin, name("a")), many(maxDeep, "MIN(") + "a" + many(maxDeep, ")")},
		{within(maxDeep-1, api.OpMax, made(api.OpCountAll)), many(maxDeep-1, "MAX(") + "COUNT(*)" + many(maxDeep-1, ")")},
	} {
		x, text := one.x, one.text
		for range 4 {
			x, text = made(api.OpAnd, x, one.x), text+" AND "+one.text
		}
		wantExpr(t, x, text)
	}
	x, text := name("a"), "a"
	for range 60 {
		x, text = made(api.OpAnd, x, made(api.OpNot, made(api.OpEq, made(api.OpNeg, name("a")), made(api.OpMul, made(api.OpSum, name("b")), made(api.OpAdd, made(api.OpCountAll), integer(1)))))), text+" AND NOT -a = SUM(b) * (COUNT(*) + 1)"
	}
	wantExpr(t, x, text)
}

// P9.1: one that is too deep is told in whichever Kid it is.
func TestDeepInEachKid(t *testing.T) {
	deep := within(maxDeep+1, api.OpMin, name("a"))
	for _, op := range allOps() {
		for i := range kidsOf(op) {
			x := sample(op)
			x.Kids[i] = deep
			wantNoExpr(t, x, api.ErrSyntaxTree)
			x.Kids[i] = deep.Kids[0]
			if s, e := printer.PrintExpr(x); (e == api.OK) != (kidsOf(op) == 2 || op == api.OpIsNull || op == api.OpNotNull) || e != api.OK && (s != "" || e != api.ErrSyntaxTree) {
				t.Errorf("%d of one that is as deep as may be: %s, %v", op, short(s), e)
			}
		}
	}
}

// P9.1: many things within one another that are no deeper, up to the document's bound; the text is too long, and its last word is looked at.
func TestManyWithinOneAnother(t *testing.T) {
	for _, op := range []api.Op{api.OpOr, api.OpAnd, api.OpAdd, api.OpSub, api.OpMul, api.OpDiv, api.OpRest} {
		for core, must := range map[string]api.Errno{"a": api.ErrTooMany, "1a": api.ErrSyntaxTree} {
			x := name(core)
			for range 60000 {
				x = made(op, x, integer(1))
			}
			if s, e := printer.PrintExpr(x); s != "" || e != must {
				t.Errorf("%d of %s: %s, %v, want %v", op, core, short(s), e, must)
			}
		}
	}
	for _, op := range allOps() {
		x := name("a")
		for range 60000 {
			if kidsOf(op) == 2 {
				x = made(op, integer(1), x)
			} else if kidsOf(op) == 1 {
				x = made(op, x)
			}
		}
		if s, e := printer.PrintExpr(x); kidsOf(op) > 0 && (s != "" || e != api.ErrSyntaxTree) {
			t.Errorf("%d: %s, %v, want %v", op, short(s), e, api.ErrSyntaxTree)
		}
	}
}
