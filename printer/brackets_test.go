package printer_test

import (
	"strings"
	"testing"

	"portolan/api"
	"portolan/printer"
	"portolan/syntax"
)

// levelOf and asksFor are the document's numbers, written out once more.
func levelOf(op api.Op) int {
	switch op {
	case api.OpOr:
		return 1
	case api.OpAnd:
		return 2
	case api.OpNot:
		return 3
	case api.OpEq, api.OpNe, api.OpLt, api.OpLe, api.OpGt, api.OpGe, api.OpIsNull, api.OpNotNull:
		return 4
	case api.OpAdd, api.OpSub:
		return 5
	case api.OpMul, api.OpDiv, api.OpRest:
		return 6
	case api.OpNeg:
		return 7
	}
	return 8
}

func asksFor(op api.Op, kid int) int {
	switch op {
	case api.OpOr:
		return 1 + kid
	case api.OpAnd:
		return 2 + kid
	case api.OpNot:
		return 3
	case api.OpEq, api.OpNe, api.OpLt, api.OpLe, api.OpGt, api.OpGe, api.OpIsNull, api.OpNotNull:
		return 5
	case api.OpAdd, api.OpSub:
		return 5 + kid
	case api.OpMul, api.OpDiv, api.OpRest:
		return 6 + kid
	case api.OpNeg:
		return 7
	}
	return 0
}

// hole is a name that stands nowhere else, and is a part of no other word.
const hole = "zzz"

// P9.1: each Op as each Kid of each other has brackets just where its level asks for them, and that is just where it would be read otherwise without.
func TestBrackets(t *testing.T) {
	with, without := 0, 0
	for _, op := range allOps() {
		for i := range kidsOf(op) {
			for _, of := range allOps() {
				x := sample(op)
				x.Kids[i] = name(hole)
				around, _ := printer.PrintExpr(x)
				x.Kids[i] = sample(of)
				own, _ := printer.PrintExpr(x.Kids[i])
				bare, bracketed := strings.Replace(around, hole, own, 1), strings.Replace(around, hole, "("+own+")", 1)
				back, _, e := syntax.ParseExpr(bare)
				otherwise := e != api.OK || !sameExpr(back, x)
				if asked := levelOf(of) < asksFor(op, i); asked != otherwise {
					t.Errorf("%d as Kid %d of %d: the level asks for brackets: %v; without it is read otherwise: %v", of, i, op, asked, otherwise)
				}
				if otherwise {
					with++
					wantExpr(t, x, bracketed)
				} else {
					without++
					wantExpr(t, x, bare)
				}
			}
		}
	}
	if with < 200 || without < 400 {
		t.Errorf("with brackets %d, without %d", with, without)
	}
}

// P9.1: the whole of an expression has none.
func TestNoBracketsAround(t *testing.T) {
	for _, op := range allOps() {
		s, e := printer.PrintExpr(sample(op))
		if strings.HasPrefix(s, "(") || e != api.OK {
			t.Errorf("%d: %s, %v", op, s, e)
		}
		for _, around := range []api.Op{api.OpLength, api.OpCount, api.OpSum, api.OpMin, api.OpMax} {
			key := map[api.Op]string{api.OpLength: "LENGTH", api.OpCount: "COUNT", api.OpSum: "SUM", api.OpMin: "MIN", api.OpMax: "MAX"}[around]
			wantExpr(t, made(around, sample(op)), key+"("+s+")")
		}
	}
}
