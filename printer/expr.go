package printer

import (
	"portolan/api"
	"portolan/value"
)

// The levels of expressions, by the grammar's rules: what binds least comes first.
const (
	expr = iota + 1
	both
	deny
	test
	sum
	prod
	minus
	plain
)

// form is how an Op stands in a text.
type form struct {
	level                  int
	places                 []int // of each Kid, the level that its place asks for
	ahead, between, behind string
	deeper                 bool // does it have a word that is one deeper?
}

var forms = [...]form{
	api.OpLit:      {level: plain},
	api.OpVar:      {level: plain},
	api.OpProp:     {level: plain},
	api.OpOr:       {level: expr, places: []int{expr, both}, between: " OR "},
	api.OpAnd:      {level: both, places: []int{both, deny}, between: " AND "},
	api.OpEq:       {level: test, places: []int{sum, sum}, between: " = "},
	api.OpNe:       {level: test, places: []int{sum, sum}, between: " <> "},
	api.OpLt:       {level: test, places: []int{sum, sum}, between: " < "},
	api.OpLe:       {level: test, places: []int{sum, sum}, between: " <= "},
	api.OpGt:       {level: test, places: []int{sum, sum}, between: " > "},
	api.OpGe:       {level: test, places: []int{sum, sum}, between: " >= "},
	api.OpAdd:      {level: sum, places: []int{sum, prod}, between: " + "},
	api.OpSub:      {level: sum, places: []int{sum, prod}, between: " - "},
	api.OpMul:      {level: prod, places: []int{prod, minus}, between: " * "},
	api.OpDiv:      {level: prod, places: []int{prod, minus}, between: " / "},
	api.OpRest:     {level: prod, places: []int{prod, minus}, between: " % "},
	api.OpNot:      {level: deny, places: []int{deny}, ahead: "NOT ", deeper: true},
	api.OpNeg:      {level: minus, places: []int{minus}, ahead: "-", deeper: true},
	api.OpIsNull:   {level: test, places: []int{sum}, behind: " IS NULL"},
	api.OpNotNull:  {level: test, places: []int{sum}, behind: " IS NOT NULL"},
	api.OpLength:   {level: plain, places: []int{expr}, ahead: "LENGTH(", behind: ")", deeper: true},
	api.OpCount:    {level: plain, places: []int{expr}, ahead: "COUNT(", behind: ")", deeper: true},
	api.OpSum:      {level: plain, places: []int{expr}, ahead: "SUM(", behind: ")", deeper: true},
	api.OpMin:      {level: plain, places: []int{expr}, ahead: "MIN(", behind: ")", deeper: true},
	api.OpMax:      {level: plain, places: []int{expr}, ahead: "MAX(", behind: ")", deeper: true},
	api.OpCountAll: {level: plain, ahead: "COUNT(*)", deeper: true},
}

// formOf tells also whether there is such an Op.
func formOf(op api.Op) (form, bool) {
	if op < api.OpLit || op > api.OpCountAll {
		return form{}, false
	}
	return forms[op], true
}

func (t *text) expr(x api.Expr) bool {
	var down func(x api.Expr, place, deep int) bool
	down = func(x api.Expr, place, deep int) bool {
		as, is := formOf(x.Op)
		ahead, behind := as.ahead, as.behind
		if as.level < place {
			ahead, behind = "("+ahead, behind+")"
			deep++
		}
		if as.deeper {
			deep++
		}
		if !is || deep > api.MaxDeep || len(x.Kids) != len(as.places) || !rightFields(x) {
			goto wrong
		}
		t.write(ahead, ownWord(x))
		for i, kid := range x.Kids {
			if i > 0 {
				t.write(as.between)
			}
			if !down(kid, as.places[i], deep) {
				goto wrong
			}
		}
		t.write(behind)
		return true
	wrong:
		return false
	}
	return down(x, expr, 0)
}

// ownWord is what an expression has in its text beside its form and its Kids.
func ownWord(x api.Expr) string {
	switch x.Op {
	case api.OpLit:
		return literal(x.Value)
	case api.OpVar:
		return x.Name
	case api.OpProp:
		return x.Name + "." + x.Prop
	}
	return ""
}

// literal is a value as the grammar has it, where truths and null are keys.
func literal(v api.Value) string {
	switch {
	case v.Kind == api.Null:
		return "NULL"
	case v.Kind == api.Bool && v.Bool:
		return "TRUE"
	case v.Kind == api.Bool:
		return "FALSE"
	}
	return value.Show(v)
}

// rightFields: are the fields beside Kids those that the Op has, and right, and the others zero?
func rightFields(x api.Expr) bool {
	switch x.Op {
	case api.OpLit:
		return x.Name == "" && x.Prop == "" && rightLiteral(x.Value)
	case api.OpVar:
		return isName(x.Name) && x.Prop == "" && isZero(x.Value)
	case api.OpProp:
		return isName(x.Name) && isName(x.Prop) && isZero(x.Value)
	}
	return x.Name == "" && x.Prop == "" && isZero(x.Value)
}

// rightLiteral: a number below 0 would be read as OpNeg of another one.
func rightLiteral(v api.Value) bool { return value.Right(v) && v.Kind <= api.Text && v.Int >= 0 }

func isZero(v api.Value) bool { return value.Right(v) && v.Kind == api.Null }
