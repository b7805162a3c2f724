package printer_test

import (
	"slices"
	"strconv"
	"testing"

	"portolan/api"
	"portolan/printer"
)

// filled are expressions, each with a text that is as long as one likes, and their own texts.
func filled(fill string) ([]api.Expr, []string) {
	x, a, word := text(fill), name("a"), "'"+fill+"'"
	return []api.Expr{
		x,
		made(api.OpAdd, x, integer(12)),
		made(api.OpAnd, x, prop("a", "xy")),
		made(api.OpEq, x, null()),
		made(api.OpIsNull, x),
		made(api.OpNotNull, x),
		made(api.OpLength, x),
		made(api.OpOr, x, made(api.OpCountAll)),
		made(api.OpMul, x, made(api.OpSub, a, text("\n"))),
		within(maxDeep-2, api.OpNot, x),
		within(maxDeep-3, api.OpNeg, x),
		made(api.OpOr, made(api.OpAnd, a, x), made(api.OpNot, truth(false))),
	}, []string{
		word,
		word + " + 12",
		word + " AND a.xy",
		word + " = NULL",
		word + " IS NULL",
		word + " IS NOT NULL",
		"LENGTH(" + word + ")",
		word + " OR COUNT(*)",
		word + ` * (a - '\n')`,
		many(maxDeep-2, "NOT ") + word,
		many(maxDeep-3, "-") + word,
		"a AND " + word + " OR NOT FALSE",
	}
}

// filledQueries are queries of that kind.
func filledQueries(fill string) ([]api.Query, []string) {
	queries := []api.Query{asked(func(q *api.Query) {
		q.Patterns[0] = api.Pattern{
			Nodes: []api.NodePat{{Var: "a", Label: "A"}, {}, {Var: "b"}},
			Edges: []api.EdgePat{{Var: "e", Mode: api.EdgeTrail, Min: 1, Max: 2}, {Back: true, Label: "F", Mode: api.EdgeShort, Max: 3}},
		}
		q.Where, q.Distinct = []api.Expr{made(api.OpEq, prop("a", "x"), text(fill))}, true
	})}
	texts := []string{"MATCH (a:A)-[e*1..2]->()<-[:F*SHORTEST 3]-(b) WHERE a.x = '" + fill + "' RETURN DISTINCT a"}
	add := func(more string, change func(q *api.Query)) {
		q := queries[len(queries)-1]
		change(&q)
		queries, texts = append(queries, q), append(texts, texts[len(texts)-1]+more)
	}
	add(" AS n1", func(q *api.Query) { q.Items = []api.Item{{Expr: name("a"), Name: "n1"}} })
	add(", b.x", func(q *api.Query) { q.Items = append(slices.Clip(q.Items), api.Item{Expr: prop("b", "x")}) })
	add(" ORDER BY n1", func(q *api.Query) { q.Keys = []api.Key{{Name: "n1"}} })
	add(" DESC", func(q *api.Query) { q.Keys = []api.Key{{Name: "n1", Desc: true}} })
	add(", m", func(q *api.Query) { q.Keys = append(slices.Clip(q.Keys), api.Key{Name: "m"}) })
	add(" LIMIT 1000", func(q *api.Query) { q.Limit = 1000 })
	return queries, texts
}

// P9.1: texts of up to 4096 bytes are told, longer ones are not, with whatever word they end.
func TestLong(t *testing.T) {
	_, expr := filled("")
	_, query := filledQueries("")
	for n := maxQuery - 20; n <= maxQuery+2; n++ {
		for i := range expr {
			xs, texts := filled(many(n-len(expr[i]), "x"))
			if n <= maxQuery {
				wantExpr(t, xs[i], texts[i])
			} else {
				wantNoExpr(t, xs[i], api.ErrTooMany)
			}
		}
		for i := range query {
			qs, texts := filledQueries(many(n-len(query[i]), "x"))
			if n <= maxQuery {
				wantText(t, qs[i], texts[i])
			} else {
				wantNoText(t, qs[i], api.ErrTooMany)
			}
		}
	}
}

// P9.1: bytes of the text count, not runes, nor the bytes of what is in it.
func TestLongBytes(t *testing.T) {
	wantExpr(t, text(many(2047, "'")), "'"+many(2047, `\'`)+"'")
	wantExpr(t, text(many(2047, "\n")), "'"+many(2047, `\n`)+"'")
	wantExpr(t, text(many(2047, "é")), "'"+many(2047, "é")+"'")
	wantNoExpr(t, text(many(2047, "'")+"x"), api.ErrTooMany)
	wantNoExpr(t, text("x"+many(2047, `\`)), api.ErrTooMany)
	wantNoExpr(t, text(many(2047, "é")+"x"), api.ErrTooMany)
	wantNoExpr(t, text(many(2048, "é")), api.ErrTooMany)
	wantNoExpr(t, text(many(maxText, "x")), api.ErrTooMany)
	wantNoExpr(t, text(many(maxText, "\n")), api.ErrTooMany)
}

// P9.1: texts that are long as there are many things in them.
func TestLongLists(t *testing.T) {
	sum, all := name("ab"), "ab"
	for range 1023 {
		sum, all = made(api.OpAdd, sum, integer(1)), all+" + 1"
	}
	wantExpr(t, sum, all)
	for x := &sum; x.Op == api.OpAdd; x = &x.Kids[0] {
		for number, must := range map[int64]api.Errno{10: api.OK, 100: api.OK, 1000: api.ErrTooMany} {
			x.Kids[1].Value.Int = number
			if s, e := printer.PrintExpr(sum); e != must || (s == "") != (e != api.OK) {
				t.Errorf("of %d bytes: %d, %v", len(all)-1+len(strconv.Itoa(int(number))), len(s), e)
			}
		}
		x.Kids[1].Value.Int = 1
	}
	wantText(t, asked(func(q *api.Query) { q.Items = slices.Repeat(q.Items, 1360) }), "MATCH (a) RETURN a"+many(1359, ", a"))
	wantNoText(t, asked(func(q *api.Query) { q.Items = slices.Repeat(q.Items, 1361) }), api.ErrTooMany)
	wantText(t, asked(func(q *api.Query) { q.Keys = slices.Repeat([]api.Key{{Name: "nn"}}, 1017) }), "MATCH (a) RETURN a ORDER BY nn"+many(1016, ", nn"))
	wantNoText(t, asked(func(q *api.Query) { q.Keys = slices.Repeat([]api.Key{{Name: "nn"}}, 1018) }), api.ErrTooMany)
	wantText(t, asked(func(q *api.Query) { q.Patterns = slices.Repeat(q.Patterns, 816) }), "MATCH (a)"+many(815, ", (a)")+" RETURN a")
	wantNoText(t, asked(func(q *api.Query) { q.Patterns = slices.Repeat(q.Patterns, 817) }), api.ErrTooMany)
}

// P9.1: of a tree that is not right and whose text is too long that it is not right is told, wherever that may be.
func TestLongAndWrong(t *testing.T) {
	long, wrong := text(many(maxText, "x")), integer(-1)
	for _, x := range []api.Expr{
		made(api.OpAdd, long, wrong), made(api.OpAdd, wrong, long), made(api.OpNeg, made(api.OpEq, made(api.OpOr, long, long), wrong)),
		made(api.OpAdd, long, api.Expr{}), made(api.OpAdd, long), made(api.OpAdd, long, within(maxDeep+1, api.OpNeg, name("a"))),
		{Op: api.OpNot, Name: "a", Kids: []api.Expr{long}}, text(many(maxText, "x") + "x"),
	} {
		wantNoExpr(t, x, api.ErrSyntaxTree)
	}
	for _, change := range []func(q *api.Query){
		func(q *api.Query) { q.Items[0].Name = "1" },
		func(q *api.Query) { q.Items = nil },
		func(q *api.Query) { q.Items = append(q.Items, api.Item{}) },
		func(q *api.Query) { q.Keys = []api.Key{{Name: "n"}, {}} },
		func(q *api.Query) { q.Limit = -2 },
		func(q *api.Query) { q.Limit = maxLimit + 1 },
		func(q *api.Query) { q.Where = append(q.Where, truth(true)) },
		func(q *api.Query) { q.Patterns = nil },
		func(q *api.Query) { q.Patterns[0].Nodes = nil },
	} {
		q := asked(func(q *api.Query) { q.Where = []api.Expr{long} })
		wantNoText(t, q, api.ErrTooMany)
		change(&q)
		wantNoText(t, q, api.ErrSyntaxTree)
	}
}
