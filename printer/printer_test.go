package printer_test

import (
	"testing"

	"portolan/api"
)

// P9.1: the chapter's examples.
func TestExamples(t *testing.T) {
	a, b, one, two := name("a"), name("b"), integer(1), integer(2)
	wantExpr(t, made(api.OpMul, made(api.OpAdd, one, a), made(api.OpNeg, made(api.OpNeg, two))), "(1 + a) * --2")
	wantExpr(t, made(api.OpSub, one, made(api.OpSub, two, integer(3))), "1 - (2 - 3)")
	wantExpr(t, made(api.OpNot, made(api.OpEq, a, made(api.OpNot, b))), "NOT a = (NOT b)")
	wantNoExpr(t, integer(-1), api.ErrSyntaxTree)
	wantExpr(t, made(api.OpOr,
		made(api.OpNot, made(api.OpEq, made(api.OpAdd, prop("a", "x"), one), made(api.OpNeg, two))),
		made(api.OpNotNull, made(api.OpCountAll))), "NOT a.x + 1 = -2 OR COUNT(*) IS NOT NULL")
	wantText(t, asked(func(q *api.Query) {
		q.Patterns[0] = api.Pattern{
			Nodes: []api.NodePat{{Var: "a", Label: "A"}, {}, {Var: "b"}},
			Edges: []api.EdgePat{{Var: "e", Label: "E", Mode: api.EdgeTrail, Min: 1, Max: 2}, {Label: "F", Back: true, Mode: api.EdgeShort, Max: 3}},
		}
		q.Keys = []api.Key{{Name: "n", Desc: true}, {Name: "m"}}
	}), "MATCH (a:A)-[e:E*1..2]->()<-[:F*SHORTEST 3]-(b) RETURN a ORDER BY n DESC, m")
}

// P9.1: each Op's text.
func TestOps(t *testing.T) {
	a, b := name("a"), name("b")
	wantExpr(t, null(), "NULL")
	wantExpr(t, truth(true), "TRUE")
	wantExpr(t, truth(false), "FALSE")
	wantExpr(t, integer(7), "7")
	wantExpr(t, text("x"), "'x'")
	wantExpr(t, a, "a")
	wantExpr(t, prop("a", "b"), "a.b")
	for op, must := range map[api.Op]string{
		api.OpOr: "a OR b", api.OpAnd: "a AND b",
		api.OpEq: "a = b", api.OpNe: "a <> b", api.OpLt: "a < b", api.OpLe: "a <= b", api.OpGt: "a > b", api.OpGe: "a >= b",
		api.OpAdd: "a + b", api.OpSub: "a - b", api.OpMul: "a * b", api.OpDiv: "a / b", api.OpRest: "a % b",
	} {
		wantExpr(t, made(op, a, b), must)
	}
	for op, must := range map[api.Op]string{
		api.OpNot: "NOT a", api.OpNeg: "-a", api.OpIsNull: "a IS NULL", api.OpNotNull: "a IS NOT NULL",
		api.OpLength: "LENGTH(a)", api.OpCount: "COUNT(a)", api.OpSum: "SUM(a)", api.OpMin: "MIN(a)", api.OpMax: "MAX(a)",
	} {
		wantExpr(t, made(op, a), must)
	}
	wantExpr(t, made(api.OpCountAll), "COUNT(*)")
}

// P9.1: blanks stand where the chapter says, one each, and nowhere else.
func TestBlanks(t *testing.T) {
	a, b, c := name("a"), name("b"), name("c")
	wantExpr(t, made(api.OpNot, made(api.OpNot, a)), "NOT NOT a")
	wantExpr(t, made(api.OpNot, made(api.OpOr, a, b)), "NOT (a OR b)")
	wantExpr(t, made(api.OpSub, a, made(api.OpNeg, made(api.OpNeg, b))), "a - --b")
	wantExpr(t, made(api.OpNeg, made(api.OpNot, a)), "-(NOT a)")
	wantExpr(t, made(api.OpNeg, made(api.OpSub, a, b)), "-(a - b)")
	wantExpr(t, made(api.OpCount, made(api.OpMul, a, made(api.OpAdd, b, made(api.OpNeg, integer(1))))), "COUNT(a * (b + -1))")
	wantExpr(t, made(api.OpIsNull, made(api.OpNot, a)), "(NOT a) IS NULL")
	wantExpr(t, made(api.OpNot, made(api.OpNotNull, a)), "NOT a IS NOT NULL")
	wantExpr(t, made(api.OpIsNull, made(api.OpNotNull, null())), "(NULL IS NOT NULL) IS NULL")
	wantExpr(t, made(api.OpLt, made(api.OpNeg, a), made(api.OpNeg, b)), "-a < -b")
	wantExpr(t, made(api.OpAnd, made(api.OpNot, a), made(api.OpNot, made(api.OpAnd, b, c))), "NOT a AND NOT (b AND c)")
	wantExpr(t, made(api.OpMin, made(api.OpMax, made(api.OpLength, prop("a", "x")))), "MIN(MAX(LENGTH(a.x)))")
}

// P9.1: what stands from the left has no brackets; what is put together otherwise has.
func TestFromTheLeft(t *testing.T) {
	a, b, c := name("a"), name("b"), name("c")
	for _, level := range [][]api.Op{{api.OpOr}, {api.OpAnd}, {api.OpAdd, api.OpSub}, {api.OpMul, api.OpDiv, api.OpRest}} {
		sign := map[api.Op]string{api.OpOr: " OR ", api.OpAnd: " AND ", api.OpAdd: " + ", api.OpSub: " - ", api.OpMul: " * ", api.OpDiv: " / ", api.OpRest: " % "}
		for _, x := range level {
			for _, y := range level {
				wantExpr(t, made(x, made(y, a, b), c), "a"+sign[y]+"b"+sign[x]+"c")
				wantExpr(t, made(x, a, made(y, b, c)), "a"+sign[x]+"(b"+sign[y]+"c)")
			}
		}
	}
	left := a
	for range 100 {
		left = made(api.OpSub, left, integer(1))
	}
	wantExpr(t, left, "a"+many(100, " - 1"))
}

// P9.1: a query's parts, each alone.
func TestQueries(t *testing.T) {
	wantText(t, asked(), "MATCH (a) RETURN a")
	wantText(t, asked(func(q *api.Query) { q.Patterns[0].Nodes[0] = api.NodePat{} }), "MATCH () RETURN a")
	wantText(t, asked(func(q *api.Query) { q.Patterns[0].Nodes[0] = api.NodePat{Label: "A"} }), "MATCH (:A) RETURN a")
	wantText(t, asked(func(q *api.Query) { q.Patterns[0].Nodes[0] = api.NodePat{Var: "b", Label: "A"} }), "MATCH (b:A) RETURN a")
	wantText(t, asked(func(q *api.Query) {
		q.Patterns = append(q.Patterns, api.Pattern{Nodes: []api.NodePat{{}}}, api.Pattern{Nodes: []api.NodePat{{Var: "b"}, {Var: "c"}}, Edges: []api.EdgePat{{}}})
	}), "MATCH (a), (), (b)-[]->(c) RETURN a")
	wantText(t, asked(func(q *api.Query) { q.Where = []api.Expr{truth(true)} }), "MATCH (a) WHERE TRUE RETURN a")
	wantText(t, asked(func(q *api.Query) { q.Distinct = true }), "MATCH (a) RETURN DISTINCT a")
	wantText(t, asked(func(q *api.Query) { q.Items[0].Name = "n" }), "MATCH (a) RETURN a AS n")
	wantText(t, asked(func(q *api.Query) {
		q.Items = []api.Item{{Expr: made(api.OpOr, name("a"), name("b")), Name: "n"}, {Expr: null()}, {Expr: made(api.OpCountAll), Name: "m"}}
	}), "MATCH (a) RETURN a OR b AS n, NULL, COUNT(*) AS m")
	wantText(t, asked(func(q *api.Query) { q.Keys = []api.Key{{Name: "n"}} }), "MATCH (a) RETURN a ORDER BY n")
	wantText(t, asked(func(q *api.Query) { q.Keys = []api.Key{{Name: "n", Desc: true}} }), "MATCH (a) RETURN a ORDER BY n DESC")
	wantText(t, asked(func(q *api.Query) {
		q.Keys = []api.Key{{Name: "n"}, {Name: "m", Desc: true}, {Name: "k"}, {Name: "n", Desc: true}}
	}), "MATCH (a) RETURN a ORDER BY n, m DESC, k, n DESC")
	wantText(t, asked(func(q *api.Query) { q.Limit = 5 }), "MATCH (a) RETURN a LIMIT 5")
	wantText(t, asked(func(q *api.Query) {
		q.Where = []api.Expr{made(api.OpNot, prop("a", "x"))}
		q.Distinct = true
		q.Items = []api.Item{{Expr: prop("a", "x"), Name: "n"}, {Expr: name("a")}}
		q.Keys = []api.Key{{Name: "n", Desc: true}, {Name: "n"}}
		q.Limit = 0
	}), "MATCH (a) WHERE NOT a.x RETURN DISTINCT a.x AS n, a ORDER BY n DESC, n LIMIT 0")
}

// P9.1: edges of each mode, with a name, a label, both, none, forward and backward.
func TestEdges(t *testing.T) {
	modes := []struct {
		edge api.EdgePat
		text string
	}{
		{api.EdgePat{}, ""},
		{api.EdgePat{Mode: api.EdgeTrail}, "*0..0"},
		{api.EdgePat{Mode: api.EdgeTrail, Max: 8}, "*0..8"},
		{api.EdgePat{Mode: api.EdgeTrail, Min: 2, Max: 3}, "*2..3"},
		{api.EdgePat{Mode: api.EdgeShort, Max: 1}, "*SHORTEST 1"},
		{api.EdgePat{Mode: api.EdgeShort, Max: 8}, "*SHORTEST 8"},
	}
	for _, mode := range modes {
		for _, own := range []string{"", "e"} {
			for _, label := range []string{"", "E"} {
				edge, body := mode.edge, own+mode.text
				edge.Var, edge.Label = own, label
				if label != "" {
					body = own + ":" + label + mode.text
				}
				forward := asked(func(q *api.Query) {
					q.Patterns[0] = api.Pattern{Nodes: []api.NodePat{{}, {Var: "b"}}, Edges: []api.EdgePat{edge}}
				})
				wantText(t, forward, "MATCH ()-["+body+"]->(b) RETURN a")
				edge.Back = true
				both := asked(func(q *api.Query) {
					q.Patterns[0] = api.Pattern{Nodes: []api.NodePat{{}, {Var: "b"}, {Label: "C"}}, Edges: []api.EdgePat{edge, forward.Patterns[0].Edges[0]}}
				})
				wantText(t, both, "MATCH ()<-["+body+"]-(b)-["+body+"]->(:C) RETURN a")
			}
		}
	}
}

// P9.1: values as texts.
func TestValues(t *testing.T) {
	wantExpr(t, integer(0), "0")
	wantExpr(t, integer(1), "1")
	wantExpr(t, integer(10), "10")
	wantExpr(t, integer(maxInt), "9223372036854775807")
	wantExpr(t, text(""), "''")
	wantExpr(t, text("it's"), `'it\'s'`)
	wantExpr(t, text(`\`), `'\\'`)
	wantExpr(t, text(`\'\n`), `'\\\'\\n'`)
	wantExpr(t, text("a\nb\n"), `'a\nb\n'`)
	wantExpr(t, text("\r\t \x00\x7f\""), "'\r\t \x00\x7f\"'")
	wantExpr(t, text("Été × \U0010ffff�"), "'Été × \U0010ffff�'")
	wantExpr(t, text("NULL"), "'NULL'")
	wantExpr(t, made(api.OpEq, text("a' OR 'b"), text("')")), `'a\' OR \'b' = '\')'`)
}

// P9.1: names of all kinds of letters, up to the longest.
func TestNames(t *testing.T) {
	for _, s := range []string{"a", "Z", "_", "a1_", "été", "ɏ", "À", many(32, "x"), many(16, "é"), "counts", "COUNT_", "_null", "matches", "nul", "BYE", "asc1", "é" + "null"} {
		wantExpr(t, name(s), s)
		wantExpr(t, prop(s, s), s+"."+s)
		wantText(t, asked(func(q *api.Query) {
			q.Patterns[0] = api.Pattern{Nodes: []api.NodePat{{Var: s, Label: s}, {Label: s}}, Edges: []api.EdgePat{{Var: s, Label: s}}}
			q.Items[0].Name = s
			q.Keys = []api.Key{{Name: s}, {Name: s, Desc: true}}
		}), "MATCH ("+s+":"+s+")-["+s+":"+s+"]->(:"+s+") RETURN a AS "+s+" ORDER BY "+s+", "+s+" DESC")
	}
}
