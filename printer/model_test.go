package printer_test

import (
	"strconv"
	"strings"
	"testing"

	"portolan/api"
	"portolan/printer"
	"portolan/syntax"
)

// word is one of a text. That a sign stands between two expressions is told, as blanks hang on it.
type word struct {
	text    string
	between bool
}

func words(l ...string) []word {
	var all []word
	for _, s := range l {
		all = append(all, word{text: s})
	}
	return all
}

// joined puts lists together.
func joined(l ...[]word) []word {
	var all []word
	for _, some := range l {
		all = append(all, some...)
	}
	return all
}

// spelt writes words, with blanks as the document lists them.
func spelt(l []word) string {
	var b strings.Builder
	for i, w := range l {
		if i > 0 && blankBetween(l[i-1], w) {
			b.WriteByte(' ')
		}
		b.WriteString(w.text)
	}
	return b.String()
}

func blankBetween(a, b word) bool {
	for _, w := range []word{a, b} {
		if w.between || w.text == "AND" || w.text == "OR" || w.text == "AS" {
			return true
		}
	}
	switch a.text {
	case "NOT", "MATCH", "WHERE", "RETURN", "DISTINCT", "LIMIT", "ORDER BY", "SHORTEST", ",":
		return true
	}
	switch b.text {
	case "WHERE", "RETURN", "ORDER BY", "LIMIT", "IS", "DESC":
		return true
	}
	return a.text == "IS" && (b.text == "NOT" || b.text == "NULL")
}

// signOf is what stands between the two of an Op.
func signOf(op api.Op) word {
	signs := map[api.Op]string{api.OpOr: "OR", api.OpAnd: "AND", api.OpEq: "=", api.OpNe: "<>", api.OpLt: "<", api.OpLe: "<=", api.OpGt: ">", api.OpGe: ">=",
		api.OpAdd: "+", api.OpSub: "-", api.OpMul: "*", api.OpDiv: "/", api.OpRest: "%"}
	return word{text: signs[op], between: true}
}

// The rules of the grammar, each of which takes what it has, and hands the others on to the next rule. Of what has too few Kids, or no Op, comes a word that no text has.
func exprWords(x api.Expr) []word {
	if x.Op == api.OpOr && len(x.Kids) == 2 {
		return joined(exprWords(x.Kids[0]), []word{signOf(x.Op)}, bothWords(x.Kids[1]))
	}
	return bothWords(x)
}

func bothWords(x api.Expr) []word {
	if x.Op == api.OpAnd && len(x.Kids) == 2 {
		return joined(bothWords(x.Kids[0]), []word{signOf(x.Op)}, denyWords(x.Kids[1]))
	}
	return denyWords(x)
}

func denyWords(x api.Expr) []word {
	if x.Op == api.OpNot && len(x.Kids) == 1 {
		return joined(words("NOT"), denyWords(x.Kids[0]))
	}
	return testWords(x)
}

func testWords(x api.Expr) []word {
	switch {
	case x.Op >= api.OpEq && x.Op <= api.OpGe && len(x.Kids) == 2:
		return joined(sumWords(x.Kids[0]), []word{signOf(x.Op)}, sumWords(x.Kids[1]))
	case x.Op == api.OpIsNull && len(x.Kids) == 1:
		return joined(sumWords(x.Kids[0]), words("IS", "NULL"))
	case x.Op == api.OpNotNull && len(x.Kids) == 1:
		return joined(sumWords(x.Kids[0]), words("IS", "NOT", "NULL"))
	}
	return sumWords(x)
}

func sumWords(x api.Expr) []word {
	if (x.Op == api.OpAdd || x.Op == api.OpSub) && len(x.Kids) == 2 {
		return joined(sumWords(x.Kids[0]), []word{signOf(x.Op)}, prodWords(x.Kids[1]))
	}
	return prodWords(x)
}

func prodWords(x api.Expr) []word {
	if (x.Op == api.OpMul || x.Op == api.OpDiv || x.Op == api.OpRest) && len(x.Kids) == 2 {
		return joined(prodWords(x.Kids[0]), []word{signOf(x.Op)}, minusWords(x.Kids[1]))
	}
	return minusWords(x)
}

func minusWords(x api.Expr) []word {
	if x.Op == api.OpNeg && len(x.Kids) == 1 {
		return joined(words("-"), minusWords(x.Kids[0]))
	}
	return plainWords(x)
}

func plainWords(x api.Expr) []word {
	keys := map[api.Op]string{api.OpLength: "LENGTH", api.OpCount: "COUNT", api.OpSum: "SUM", api.OpMin: "MIN", api.OpMax: "MAX"}
	switch {
	case x.Op == api.OpLit:
		return words(valueWord(x.Value))
	case x.Op == api.OpVar:
		return words(x.Name)
	case x.Op == api.OpProp:
		return words(x.Name, ".", x.Prop)
	case x.Op == api.OpCountAll:
		return words("COUNT", "(", "*", ")")
	case keys[x.Op] != "" && len(x.Kids) == 1:
		return joined(words(keys[x.Op], "("), exprWords(x.Kids[0]), words(")"))
	case x.Op >= api.OpOr && x.Op <= api.OpNotNull && len(x.Kids) == kidsOf(x.Op):
		return joined(words("("), exprWords(x), words(")"))
	}
	return words("$")
}

// valueWord is the word of a literal; of what has none one that no text has.
func valueWord(v api.Value) string {
	switch v.Kind {
	case api.Null:
		return "NULL"
	case api.Bool:
		return strings.ToUpper(strconv.FormatBool(v.Bool))
	case api.Int:
		return strconv.FormatInt(v.Int, 10)
	case api.Text:
		return "'" + strings.NewReplacer("'", `\'`, `\`, `\\`, "\n", `\n`).Replace(v.Text) + "'"
	}
	return "$"
}

// listWords are lists with commas between.
func listWords[T any](l []T, one func(T) []word) []word {
	var all []word
	for i, x := range l {
		if i > 0 {
			all = append(all, word{text: ","})
		}
		all = append(all, one(x)...)
	}
	return all
}

func headWords(own, label string) []word {
	l := words(own)
	if label != "" {
		l = append(l, words(":", label)...)
	}
	return l
}

// patternWords has nodes and edges by turns, as long as there are any.
func patternWords(p api.Pattern) []word {
	var l []word
	for i := 0; i < len(p.Nodes) || i < len(p.Edges); i++ {
		if i < len(p.Nodes) {
			l = joined(l, words("("), headWords(p.Nodes[i].Var, p.Nodes[i].Label), words(")"))
		}
		if i < len(p.Edges) {
			l = append(l, edgeWords(p.Edges[i])...)
		}
	}
	return l
}

func edgeWords(e api.EdgePat) []word {
	body := joined(words("["), headWords(e.Var, e.Label))
	switch e.Mode {
	case api.EdgeTrail:
		body = append(body, words("*", strconv.Itoa(e.Min), "..", strconv.Itoa(e.Max))...)
	case api.EdgeShort:
		body = append(body, words("*", "SHORTEST", strconv.Itoa(e.Max))...)
	}
	if e.Back {
		return joined(words("<", "-"), body, words("]", "-"))
	}
	return joined(words("-"), body, words("]", "-", ">"))
}

func queryWords(q api.Query) []word {
	l := joined(words("MATCH"), listWords(q.Patterns, patternWords))
	for _, x := range q.Where {
		l = joined(l, words("WHERE"), exprWords(x))
	}
	l = append(l, word{text: "RETURN"})
	if q.Distinct {
		l = append(l, word{text: "DISTINCT"})
	}
	l = append(l, listWords(q.Items, func(i api.Item) []word {
		if i.Name == "" {
			return exprWords(i.Expr)
		}
		return joined(exprWords(i.Expr), words("AS", i.Name))
	})...)
	if len(q.Keys) > 0 {
		l = joined(l, words("ORDER BY"), listWords(q.Keys, func(k api.Key) []word {
			if k.Desc {
				return words(k.Name, "DESC")
			}
			return words(k.Name)
		}))
	}
	if q.Limit != -1 {
		l = append(l, words("LIMIT", strconv.Itoa(q.Limit))...)
	}
	return l
}

// asModel holds what comes of an expression, whose text is not too long, against the model: it is right just if the text that it would have is read as it.
func asModel(t *testing.T, x api.Expr) api.Errno {
	t.Helper()
	must, e := spelt(exprWords(x)), api.OK
	if back, _, not := syntax.ParseExpr(must); not != api.OK || !sameExpr(back, x) {
		must, e = "", api.ErrSyntaxTree
	}
	if s, got := printer.PrintExpr(x); s != must || got != e {
		t.Errorf("PrintExpr(%s): %s, %v, want %s, %v", short(x), short(s), got, short(must), e)
	}
	return e
}

// asModelQuery does so with a query.
func asModelQuery(t *testing.T, q api.Query) api.Errno {
	t.Helper()
	must, e := spelt(queryWords(q)), api.OK
	if back, _, not := syntax.Parse(must); not != api.OK || !sameQuery(back, q) {
		must, e = "", api.ErrSyntaxTree
	}
	if s, got := printer.Print(q); s != must || got != e {
		t.Errorf("Print(%s): %s, %v, want %s, %v", short(q), short(s), got, short(must), e)
	}
	return e
}
