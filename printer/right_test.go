package printer_test

import (
	"slices"
	"strings"
	"testing"

	"portolan/api"
	"portolan/printer"
)

// kidsOf is how many Kids an Op has, as package api says.
func kidsOf(op api.Op) int {
	switch {
	case op >= api.OpOr && op <= api.OpRest:
		return 2
	case op >= api.OpNot && op <= api.OpMax:
		return 1
	}
	return 0
}

// sample is a right expression of an Op, of these Kids, or of as many of a as it has.
func sample(op api.Op, kids ...api.Expr) api.Expr {
	x := api.Expr{Op: op, Kids: kids}
	for len(x.Kids) < kidsOf(op) {
		x.Kids = append(x.Kids, name("a"))
	}
	switch op {
	case api.OpLit:
		x.Value = api.Value{Kind: api.Text, Text: "s"}
	case api.OpVar:
		x.Name = "v"
	case api.OpProp:
		x.Name, x.Prop = "v", "p"
	}
	return x
}

// allOps are all that there are.
func allOps() []api.Op {
	var l []api.Op
	for op := api.Op(1); op <= 26; op++ {
		l = append(l, op)
	}
	return l
}

// P9.1: each Op with as many Kids as it says is right; with others it is not.
func TestKids(t *testing.T) {
	for _, op := range allOps() {
		x := sample(op)
		if _, e := printer.PrintExpr(x); e != api.OK {
			t.Errorf("%d of its Kids: %v", op, e)
		}
		if len(x.Kids) == 0 {
			none := x
			none.Kids = []api.Expr{}
			if _, e := printer.PrintExpr(none); e != api.OK {
				t.Errorf("%d of an empty list: %v", op, e)
			}
		}
		for n := range 5 {
			if n == kidsOf(op) {
				continue
			}
			x.Kids = slices.Repeat([]api.Expr{name("a")}, n)
			wantNoExpr(t, x, api.ErrSyntaxTree)
		}
	}
}

// P9.1: there is no other Op.
func TestNoOp(t *testing.T) {
	for _, op := range []api.Op{0, 27, -1, 28, 100, 1 << 40, -1 << 63, 1<<63 - 1} {
		for n := range 4 {
			wantNoExpr(t, api.Expr{Op: op, Kids: slices.Repeat([]api.Expr{name("a")}, n)}, api.ErrSyntaxTree)
		}
		wantNoExpr(t, api.Expr{Op: op, Name: "a"}, api.ErrSyntaxTree)
		wantNoExpr(t, api.Expr{Op: op, Name: "a", Prop: "b"}, api.ErrSyntaxTree)
		wantNoExpr(t, api.Expr{Op: op, Value: api.Value{Kind: api.Int, Int: 1}}, api.ErrSyntaxTree)
	}
	wantNoExpr(t, api.Expr{}, api.ErrSyntaxTree)
}

// P9.1: each Kid must be right, at each place.
func TestEachKid(t *testing.T) {
	for _, op := range allOps() {
		for i := range kidsOf(op) {
			for _, wrong := range []api.Expr{{}, integer(-1), name("1"), made(api.OpAdd, name("a"))} {
				x := sample(op)
				x.Kids[i] = wrong
				wantNoExpr(t, x, api.ErrSyntaxTree)
			}
		}
	}
}

// P9.1: a field that an Op does not have must be zero.
func TestOtherFields(t *testing.T) {
	values := []api.Value{
		{Kind: api.Bool}, {Kind: api.Int}, {Kind: api.Text}, {Kind: api.NodeID}, {Kind: api.Path, Path: []int64{1}}, {Kind: api.Fault}, {Kind: -1},
		{Bool: true}, {Int: 1}, {Int: -1}, {Text: "x"}, {Path: []int64{0}},
	}
	for _, op := range allOps() {
		x := sample(op)
		if op != api.OpVar && op != api.OpProp {
			x.Name = "a"
			wantNoExpr(t, x, api.ErrSyntaxTree)
		}
		x = sample(op)
		if op != api.OpProp {
			x.Prop = "a"
			wantNoExpr(t, x, api.ErrSyntaxTree)
		}
		if op == api.OpLit {
			continue
		}
		for _, v := range values {
			x = sample(op)
			x.Value = v
			wantNoExpr(t, x, api.ErrSyntaxTree)
		}
		x = sample(op)
		x.Value.Path = []int64{}
		if _, e := printer.PrintExpr(x); e != api.OK {
			t.Errorf("%d of an empty path: %v", op, e)
		}
	}
}

// noNames are texts that are no names, or keys.
func noNames() []string {
	l := []string{" ", "1", "1a", "a b", "a ", " a", "a.b", "a\n", "'a'", "a-b", "*", "(a)", "×", "÷", "ɐ", "a\xff", "\xc3", "a\x00", "$", many(33, "x"), many(16, "é") + "x", "a:A", "n DESC", "Ω"}
	for key := range strings.FieldsSeq("MATCH WHERE RETURN DISTINCT ORDER BY ASC DESC LIMIT AS AND OR NOT IS NULL TRUE FALSE SHORTEST LENGTH COUNT SUM MIN MAX") {
		l = append(l, key, strings.ToLower(key), key[:1]+strings.ToLower(key[1:]))
	}
	return l
}

// P9.1: names must be names and no keys, wherever they stand.
func TestNoNames(t *testing.T) {
	for _, s := range noNames() {
		wantNoExpr(t, name(s), api.ErrSyntaxTree)
		wantNoExpr(t, prop(s, "a"), api.ErrSyntaxTree)
		wantNoExpr(t, prop("a", s), api.ErrSyntaxTree)
		for _, q := range namedQueries(s) {
			wantNoText(t, q, api.ErrSyntaxTree)
		}
	}
}

// namedQueries have a name at each place where one may be left out, and last where it may not.
func namedQueries(s string) []api.Query {
	node := func(n api.NodePat) api.Query {
		return asked(func(q *api.Query) { q.Patterns[0].Nodes[0] = n })
	}
	edge := func(e api.EdgePat) api.Query {
		return asked(func(q *api.Query) {
			q.Patterns = append(q.Patterns, api.Pattern{Nodes: make([]api.NodePat, 3), Edges: []api.EdgePat{{}, e}})
		})
	}
	return []api.Query{
		node(api.NodePat{Var: s}), node(api.NodePat{Var: s, Label: "A"}), node(api.NodePat{Label: s}), node(api.NodePat{Var: "a", Label: s}),
		edge(api.EdgePat{Var: s}), edge(api.EdgePat{Var: s, Label: "A"}), edge(api.EdgePat{Label: s}), edge(api.EdgePat{Var: "a", Label: s, Back: true}),
		edge(api.EdgePat{Var: s, Mode: api.EdgeTrail, Max: 1}), edge(api.EdgePat{Label: s, Mode: api.EdgeShort, Max: 1}),
		asked(func(q *api.Query) {
			q.Patterns[0] = api.Pattern{Nodes: []api.NodePat{{}, {Var: s}}, Edges: []api.EdgePat{{}}}
		}),
		asked(func(q *api.Query) { q.Items[0].Name = s }),
		asked(func(q *api.Query) { q.Items = append(q.Items, api.Item{Expr: null(), Name: s}) }),
		asked(func(q *api.Query) { q.Keys = []api.Key{{Name: s}} }),
		asked(func(q *api.Query) { q.Keys = []api.Key{{Name: s, Desc: true}} }),
		asked(func(q *api.Query) { q.Keys = []api.Key{{Name: "n"}, {Name: s}, {Name: "m"}} }),
	}
}

// P9.1: an empty name is none; but where it may be left out it is.
func TestEmptyNames(t *testing.T) {
	wantNoExpr(t, name(""), api.ErrSyntaxTree)
	wantNoExpr(t, prop("", "a"), api.ErrSyntaxTree)
	wantNoExpr(t, prop("a", ""), api.ErrSyntaxTree)
	wantNoExpr(t, prop("", ""), api.ErrSyntaxTree)
	for i, q := range namedQueries("") {
		_, e := printer.Print(q)
		if key := len(q.Keys) > 0; (e == api.ErrSyntaxTree) != key || (e == api.OK) == key {
			t.Errorf("query %d, %s: %v", i, short(q), e)
		}
	}
}

// P9.1: what the Value of OpLit may be, and what not.
func TestLiterals(t *testing.T) {
	for _, v := range []api.Value{
		{Kind: api.Int, Int: -1}, {Kind: api.Int, Int: -1 << 63}, {Kind: api.Int, Int: -9223372036854775807},
		{Kind: api.NodeID}, {Kind: api.NodeID, Int: 1}, {Kind: api.EdgeID}, {Kind: api.EdgeID, Int: 1 << 40},
		{Kind: api.Path}, {Kind: api.Path, Path: []int64{1}}, {Kind: api.Path, Path: []int64{1, 2, 3}},
		{Kind: api.Fault}, {Kind: 8}, {Kind: -1},
		{Kind: api.Text, Text: "\xff"}, {Kind: api.Text, Text: "a\xc3"}, {Kind: api.Text, Text: "\xed\xa0\x80"}, {Kind: api.Text, Text: many(maxText, "x") + "y"}, {Kind: api.Text, Text: many(2*maxText, "\n")},
		{Bool: true}, {Int: 1}, {Text: "a"}, {Path: []int64{1}}, {Kind: api.Bool, Int: 1}, {Kind: api.Bool, Bool: true, Text: "a"}, {Kind: api.Int, Bool: true}, {Kind: api.Int, Int: 1, Text: "1"},
		{Kind: api.Int, Path: []int64{1}}, {Kind: api.Text, Int: 1}, {Kind: api.Text, Text: "a", Bool: true}, {Kind: api.Text, Path: []int64{0}}, {Kind: api.Text, Int: -1},
	} {
		wantNoExpr(t, literal(v), api.ErrSyntaxTree)
	}
	for _, v := range []api.Value{{Path: []int64{}}, {Kind: api.Int, Path: []int64{}}, {Kind: api.Text, Path: []int64{}}} {
		if _, e := printer.PrintExpr(literal(v)); e != api.OK {
			t.Errorf("%s: %v", short(v), e)
		}
	}
}

// P9.1: patterns: one at least, each with one node more than edges.
func TestPatterns(t *testing.T) {
	wantNoText(t, asked(func(q *api.Query) { q.Patterns = nil }), api.ErrSyntaxTree)
	wantNoText(t, asked(func(q *api.Query) { q.Patterns = []api.Pattern{} }), api.ErrSyntaxTree)
	for nodes := range 6 {
		for edges := range 6 {
			p := api.Pattern{Nodes: make([]api.NodePat, nodes), Edges: make([]api.EdgePat, edges)}
			alone := asked(func(q *api.Query) { q.Patterns[0] = p })
			behind := asked(func(q *api.Query) { q.Patterns = append(q.Patterns, p) })
			if nodes == edges+1 {
				wantText(t, alone, "MATCH ()"+many(edges, "-[]->()")+" RETURN a")
				wantText(t, behind, "MATCH (a), ()"+many(edges, "-[]->()")+" RETURN a")
			} else {
				wantNoText(t, alone, api.ErrSyntaxTree)
				wantNoText(t, behind, api.ErrSyntaxTree)
			}
		}
	}
}

// P9.1: each mode with each Min and Max, up to one beyond the bounds, and others far beyond.
func TestBounds(t *testing.T) {
	numbers := []int{-1 << 63, -2, -1, 0, 1, 2, 3, 4, 5, 6, 7, 8, 9, 10, 1 << 32, 1<<63 - 1}
	right := 0
	for mode := api.EdgeMode(-1); mode <= 4; mode++ {
		for _, least := range numbers {
			for _, most := range numbers {
				q := asked(func(q *api.Query) {
					q.Patterns[0] = api.Pattern{Nodes: make([]api.NodePat, 2), Edges: []api.EdgePat{{Var: "e", Mode: mode, Min: least, Max: most}}}
				})
				body, is := "e", false
				switch mode {
				case 0:
					is = least == 0 && most == 0
				case 1:
					body, is = "e*"+decimal(least)+".."+decimal(most), least >= 0 && most >= least && most <= maxTrail
				case 2:
					body, is = "e*SHORTEST "+decimal(most), least == 0 && most >= 1 && most <= maxTrail
				}
				if is {
					right++
					wantText(t, q, "MATCH ()-["+body+"]->() RETURN a")
				} else {
					wantNoText(t, q, api.ErrSyntaxTree)
				}
			}
		}
	}
	if right != 1+45+8 {
		t.Errorf("%d are right", right)
	}
}

// decimal is a number of one digit.
func decimal(n int) string {
	if n < 0 || n > 9 {
		return "?"
	}
	return string(rune('0' + n))
}

// P9.1: Where has one expression at most, there is an item at least.
func TestHowMany(t *testing.T) {
	wantText(t, asked(func(q *api.Query) { q.Where = []api.Expr{} }), "MATCH (a) RETURN a")
	wantNoText(t, asked(func(q *api.Query) { q.Where = []api.Expr{truth(true), truth(true)} }), api.ErrSyntaxTree)
	wantNoText(t, asked(func(q *api.Query) { q.Where = slices.Repeat([]api.Expr{truth(true)}, 3) }), api.ErrSyntaxTree)
	wantNoText(t, asked(func(q *api.Query) { q.Items = nil }), api.ErrSyntaxTree)
	wantNoText(t, asked(func(q *api.Query) { q.Items = []api.Item{}; q.Distinct = true }), api.ErrSyntaxTree)
	wantText(t, asked(func(q *api.Query) { q.Keys = []api.Key{} }), "MATCH (a) RETURN a")
	wantNoText(t, api.Query{}, api.ErrSyntaxTree)
	wantNoText(t, api.Query{Limit: -1}, api.ErrSyntaxTree)
}

// P9.1: the limit is -1 to MaxLimit.
func TestLimits(t *testing.T) {
	for limit, must := range map[int]string{-1: "", 0: " LIMIT 0", 1: " LIMIT 1", 10: " LIMIT 10", maxLimit - 1: " LIMIT 1099511627775", maxLimit: " LIMIT 1099511627776"} {
		wantText(t, asked(func(q *api.Query) { q.Limit = limit }), "MATCH (a) RETURN a"+must)
	}
	for _, limit := range []int{-2, -3, maxLimit + 1, -1 << 63, 1<<63 - 1, -maxLimit} {
		wantNoText(t, asked(func(q *api.Query) { q.Limit = limit }), api.ErrSyntaxTree)
	}
}

// P9.1: a part that is not right is told wherever it stands.
func TestWrongAnywhere(t *testing.T) {
	wrong := integer(-1)
	for n := range 4 {
		for i := range n + 1 {
			wantNoText(t, asked(func(q *api.Query) {
				q.Items = slices.Repeat([]api.Item{{Expr: name("a"), Name: "n"}}, n+1)
				q.Items[i].Expr = wrong
			}), api.ErrSyntaxTree)
			wantNoText(t, asked(func(q *api.Query) {
				q.Keys = slices.Repeat([]api.Key{{Name: "n"}}, n+1)
				q.Keys[i].Name = "a b"
			}), api.ErrSyntaxTree)
			wantNoText(t, asked(func(q *api.Query) {
				q.Patterns = slices.Repeat([]api.Pattern{{Nodes: make([]api.NodePat, 1)}}, n+1)
				q.Patterns[i].Nodes = []api.NodePat{{Label: "1"}}
			}), api.ErrSyntaxTree)
			wantNoText(t, asked(func(q *api.Query) {
				q.Patterns[0] = api.Pattern{Nodes: make([]api.NodePat, n+2), Edges: make([]api.EdgePat, n+1)}
				q.Patterns[0].Edges[i].Max = 1
			}), api.ErrSyntaxTree)
			wantNoText(t, asked(func(q *api.Query) {
				q.Patterns[0] = api.Pattern{Nodes: make([]api.NodePat, n+1), Edges: make([]api.EdgePat, n)}
				q.Patterns[0].Nodes[i].Var = "-"
			}), api.ErrSyntaxTree)
		}
	}
}
