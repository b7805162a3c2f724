package printer_test

import (
	"slices"
	"strings"
	"testing"
	"unsafe"

	"portolan/api"
	"portolan/printer"
)

// all is the text of a tree that has every list that there may be, several things in each.
const all = `MATCH (été:A)-[e*1..2]->()<-[:F]-(b), (c), (été) WHERE été.x = 'it\'s' OR NOT b.x > 'plain' RETURN DISTINCT SUM(b.x + 1) AS n, -c.x * (2 - 1), COUNT(*), LENGTH(e) ORDER BY n DESC, m LIMIT 5`

// roomy puts a list into memory with spare room behind, which is filled with something.
func roomy[T any](spare T, l ...T) []T {
	room := append(slices.Clone(l), spare, spare, spare)
	return room[:len(l)]
}

// drawnTree is its tree, in lists with spare room, of texts that name gives.
func drawnTree(text func(s string) string) api.Query {
	spare := api.Expr{Op: 99, Name: "spare"}
	leaf := func(x api.Expr) api.Expr {
		x.Name, x.Prop, x.Value.Text = text(x.Name), text(x.Prop), text(x.Value.Text)
		x.Kids = roomy(spare)
		x.Value.Path = roomy(int64(9))
		return x
	}
	of := func(op api.Op, kids ...api.Expr) api.Expr { return made(op, roomy(spare, kids...)...) }
	lit := func(v api.Value) api.Expr { return leaf(literal(v)) }
	number := func(n int64) api.Expr { return lit(api.Value{Kind: api.Int, Int: n}) }
	node := func(own, label string) api.NodePat { return api.NodePat{Var: text(own), Label: text(label)} }
	noNode, noEdge := node("spare", "1"), api.EdgePat{Var: "spare", Mode: 9}
	return api.Query{
		Patterns: roomy(api.Pattern{},
			api.Pattern{
				Nodes: roomy(noNode, node("été", "A"), node("", ""), node("b", "")),
				Edges: roomy(noEdge, api.EdgePat{Var: text("e"), Mode: api.EdgeTrail, Min: 1, Max: 2}, api.EdgePat{Label: text("F"), Back: true}),
			},
			api.Pattern{Nodes: roomy(noNode, node("c", "")), Edges: roomy(noEdge)},
			api.Pattern{Nodes: roomy(noNode, node("été", ""))}),
		Where: roomy(spare, of(api.OpOr, of(api.OpEq, leaf(prop("été", "x")), lit(api.Value{Kind: api.Text, Text: "it's"})),
			of(api.OpNot, of(api.OpGt, leaf(prop("b", "x")), lit(api.Value{Kind: api.Text, Text: "plain"}))))),
		Items: roomy(api.Item{Name: "1"},
			api.Item{Expr: of(api.OpSum, of(api.OpAdd, leaf(prop("b", "x")), number(1))), Name: text("n")},
			api.Item{Expr: of(api.OpMul, of(api.OpNeg, leaf(prop("c", "x"))), of(api.OpSub, number(2), number(1)))},
			api.Item{Expr: of(api.OpCountAll)},
			api.Item{Expr: of(api.OpLength, leaf(name("e")))}),
		Distinct: true,
		Keys:     roomy(api.Key{}, api.Key{Name: text("n"), Desc: true}, api.Key{Name: text("m")}),
		Limit:    5,
	}
}

func itself(s string) string { return s }

// wholeExpr is an expression with its lists' spare room; so is what wholeQuery is.
func wholeExpr(x api.Expr) api.Expr {
	x.Kids = x.Kids[:cap(x.Kids)]
	x.Value.Path = x.Value.Path[:cap(x.Value.Path)]
	for i := range x.Kids {
		x.Kids[i] = wholeExpr(x.Kids[i])
	}
	return x
}

func wholeQuery(q api.Query) api.Query {
	q.Patterns, q.Where, q.Items, q.Keys = q.Patterns[:cap(q.Patterns)], q.Where[:cap(q.Where)], q.Items[:cap(q.Items)], q.Keys[:cap(q.Keys)]
	for i, p := range q.Patterns {
		q.Patterns[i] = api.Pattern{Nodes: p.Nodes[:cap(p.Nodes)], Edges: p.Edges[:cap(p.Edges)]}
	}
	for i := range q.Where {
		q.Where[i] = wholeExpr(q.Where[i])
	}
	for i := range q.Items {
		q.Items[i].Expr = wholeExpr(q.Items[i].Expr)
	}
	return q
}

// changes are ways to spoil a tree, so that it is not right, or has another text.
func changes() []func(q *api.Query) {
	return []func(q *api.Query){
		func(q *api.Query) {},
		func(q *api.Query) { q.Limit = -2 },
		func(q *api.Query) { q.Keys[1].Name = "1" },
		func(q *api.Query) { q.Items[3].Expr.Kids[0].Name = "" },
		func(q *api.Query) { q.Where[0].Kids[0].Kids[1].Value.Text = many(maxText, "x") },
		func(q *api.Query) { q.Patterns[0].Edges[1].Max = 9 },
	}
}

// P3: what is handed in stands as it was, its lists' spare room too, be the tree right or not.
func TestHandedInStands(t *testing.T) {
	for i, change := range changes() {
		q, must := drawnTree(itself), drawnTree(itself)
		change(&q)
		change(&must)
		for range 2 {
			printer.Print(q)
			for _, x := range q.Items {
				printer.PrintExpr(x.Expr)
			}
			printer.PrintExpr(q.Where[0])
		}
		if q, must := wholeQuery(q), wholeQuery(must); !sameQuery(q, must) {
			t.Errorf("change %d: what was handed in is %s, was %s", i, short(q), short(must))
		}
	}
}

// P3: what is told stays, whatever becomes then of what was handed in, and of the bytes of its texts.
func TestNotKept(t *testing.T) {
	var bytes [][]byte
	q := drawnTree(func(s string) string {
		b := []byte(s)
		bytes = append(bytes, b)
		return unsafe.String(unsafe.SliceData(b), len(b))
	})
	alone := q.Items[3].Expr.Kids[0]
	told, e := printer.Print(q)
	where, eOfWhere := printer.PrintExpr(q.Where[0])
	own, eOfOwn := printer.PrintExpr(alone)
	for _, b := range bytes {
		for i := range b {
			b[i] = '?'
		}
	}
	clear(q.Items)
	clear(q.Patterns)
	clear(q.Where)
	if told != all || e != api.OK {
		t.Errorf("Print: %s, %v", short(told), e)
	}
	if must := all[strings.Index(all, "WHERE ")+6 : strings.Index(all, " RETURN")]; where != must || eOfWhere != api.OK {
		t.Errorf("PrintExpr: %s, %v, want %s", short(where), eOfWhere, short(must))
	}
	if own != "e" || eOfOwn != api.OK {
		t.Errorf("PrintExpr: %s, %v", short(own), eOfOwn)
	}
	again, e := printer.Print(drawnTree(itself))
	if again != all || e != api.OK {
		t.Errorf("Print: %s, %v", short(again), e)
	}
}

// P3: what comes of a tree does not hang on what was asked ahead of it, nor on what becomes of what was told.
func TestNothingKept(t *testing.T) {
	for i, change := range changes() {
		q := drawnTree(itself)
		change(&q)
		s, e := printer.Print(q)
		for j, other := range changes() {
			ahead := drawnTree(itself)
			other(&ahead)
			told, _ := printer.Print(ahead)
			if told != "" {
				b := unsafe.Slice(unsafe.StringData(told), len(told))
				for k := range b {
					b[k] = '?'
				}
			}
			if again, eAgain := printer.Print(q); again != s || eAgain != e {
				t.Errorf("change %d behind change %d: %s, %v, want %s, %v", i, j, short(again), eAgain, short(s), e)
			}
		}
		if (e == api.OK) != (i == 0) || e == api.OK && s != all {
			t.Errorf("change %d: %s, %v", i, short(s), e)
		}
	}
}

// P3: a list that stands in several places is no matter, nor is one that is nil and not empty.
func TestSharedLists(t *testing.T) {
	both := []api.Expr{name("a"), name("b")}
	wantExpr(t, made(api.OpMul, made(api.OpAdd, both...), made(api.OpSub, both...)), "(a + b) * (a - b)")
	wantText(t, asked(func(q *api.Query) {
		nodes := []api.NodePat{{Var: "a"}, {Var: "b"}}
		edges := []api.EdgePat{{}}
		q.Patterns = []api.Pattern{{Nodes: nodes, Edges: edges}, {Nodes: nodes, Edges: edges}, {Nodes: nodes[1:], Edges: edges[:0]}}
	}), "MATCH (a)-[]->(b), (a)-[]->(b), (b) RETURN a")
}

// P3: many at once tell the same as one alone, also of one and the same tree.
func TestAtOnce(t *testing.T) {
	q := drawnTree(itself)
	done := make(chan string)
	for range 8 {
		go func() {
			s := ""
			for range 100 {
				printer.PrintExpr(within(60, api.OpNot, name("a")))
				printer.PrintExpr(q.Where[0])
				s, _ = printer.Print(q)
			}
			done <- s
		}()
	}
	for range 8 {
		if s := <-done; s != all {
			t.Errorf("Print: %s", short(s))
		}
	}
}
