package printer_test

import (
	"fmt"
	"slices"
	"strconv"
	"strings"
	"testing"

	"portolan/api"
	"portolan/printer"
	"portolan/syntax"
)

// The document's bounds, written out once more.
const (
	maxQuery = 4096
	maxText  = 4096
	maxDeep  = 50
	maxTrail = 8
	maxLimit = 1099511627776
	maxInt   = 9223372036854775807
)

func null() api.Expr { return literal(api.Value{}) }

func truth(b bool) api.Expr { return literal(api.Value{Kind: api.Bool, Bool: b}) }

func integer(n int64) api.Expr { return literal(api.Value{Kind: api.Int, Int: n}) }

func text(s string) api.Expr { return literal(api.Value{Kind: api.Text, Text: s}) }

func literal(v api.Value) api.Expr { return api.Expr{Op: api.OpLit, Value: v} }

func name(s string) api.Expr { return api.Expr{Op: api.OpVar, Name: s} }

func prop(s, p string) api.Expr { return api.Expr{Op: api.OpProp, Name: s, Prop: p} }

func made(op api.Op, kids ...api.Expr) api.Expr { return api.Expr{Op: op, Kids: kids} }

// sameExpr holds all fields against each other; an empty list may be nil or not.
func sameExpr(a, b api.Expr) bool {
	return a.Op == b.Op && slices.EqualFunc(a.Kids, b.Kids, sameExpr) && a.Name == b.Name && a.Prop == b.Prop && sameValue(a.Value, b.Value)
}

func sameValue(a, b api.Value) bool {
	return a.Kind == b.Kind && a.Bool == b.Bool && a.Int == b.Int && a.Text == b.Text && slices.Equal(a.Path, b.Path)
}

func sameQuery(a, b api.Query) bool {
	return slices.EqualFunc(a.Patterns, b.Patterns, func(a, b api.Pattern) bool {
		return slices.Equal(a.Nodes, b.Nodes) && slices.Equal(a.Edges, b.Edges)
	}) && slices.EqualFunc(a.Where, b.Where, sameExpr) && a.Distinct == b.Distinct &&
		slices.EqualFunc(a.Items, b.Items, func(a, b api.Item) bool { return a.Name == b.Name && sameExpr(a.Expr, b.Expr) }) &&
		slices.Equal(a.Keys, b.Keys) && a.Limit == b.Limit
}

// short writes something out, cut off if it is long.
func short(x any) string {
	s := fmt.Sprintf("%+v", x)
	if len(s) > 700 {
		s = s[:700] + " .."
	}
	return strconv.QuoteToASCII(s)
}

// asked is the tree of `MATCH (a) RETURN a`, changed.
func asked(changes ...func(q *api.Query)) api.Query {
	q := api.Query{
		Patterns: []api.Pattern{{Nodes: []api.NodePat{{Var: "a"}}}},
		Items:    []api.Item{{Expr: name("a")}},
		Limit:    -1,
	}
	for _, change := range changes {
		change(&q)
	}
	return q
}

// of are all queries of an expression in which it stands alone, or with others ahead and behind, at each place where one may stand.
func of(x api.Expr) []api.Query {
	b := api.Item{Expr: name("b")}
	return []api.Query{
		asked(func(q *api.Query) { q.Where = []api.Expr{x} }),
		asked(func(q *api.Query) { q.Items = []api.Item{{Expr: x}} }),
		asked(func(q *api.Query) { q.Items = []api.Item{b, {Expr: x, Name: "n"}, b} }),
		asked(func(q *api.Query) { q.Items = []api.Item{b, {Expr: x}}; q.Keys = []api.Key{{Name: "n"}} }),
		asked(func(q *api.Query) { q.Where = []api.Expr{x}; q.Items = []api.Item{{Expr: x}, {Expr: x}} }),
	}
}

// textsOf are their texts, if that is the expression's.
func textsOf(x string) []string {
	return []string{
		"MATCH (a) WHERE " + x + " RETURN a",
		"MATCH (a) RETURN " + x,
		"MATCH (a) RETURN b, " + x + " AS n, b",
		"MATCH (a) RETURN b, " + x + " ORDER BY n",
		"MATCH (a) WHERE " + x + " RETURN " + x + ", " + x,
	}
}

// wantText: a query has just this text, which is read as it.
func wantText(t *testing.T, q api.Query, must string) {
	t.Helper()
	if s, e := printer.Print(q); s != must || e != api.OK {
		t.Errorf("Print(%s): %s, %v, want %s, OK", short(q), short(s), e, short(must))
	}
	if back, at, e := syntax.Parse(must); !sameQuery(back, q) || at != 0 || e != api.OK {
		t.Errorf("%s is read as %s, %d, %v, not as %s", short(must), short(back), at, e, short(q))
	}
}

// wantNoText: a query has none, for that.
func wantNoText(t *testing.T, q api.Query, must api.Errno) {
	t.Helper()
	if s, e := printer.Print(q); s != "" || e != must {
		t.Errorf("Print(%s): %s, %v, want nothing, %v", short(q), short(s), e, must)
	}
}

// wantExpr: an expression has just this text, which is read as it, also wherever one may stand in a query.
func wantExpr(t *testing.T, x api.Expr, must string) {
	t.Helper()
	if s, e := printer.PrintExpr(x); s != must || e != api.OK {
		t.Errorf("PrintExpr(%s): %s, %v, want %s, OK", short(x), short(s), e, short(must))
	}
	if back, at, e := syntax.ParseExpr(must); !sameExpr(back, x) || at != 0 || e != api.OK {
		t.Errorf("%s is read as %s, %d, %v, not as %s", short(must), short(back), at, e, short(x))
	}
	if len(must) < 1000 {
		texts := textsOf(must)
		for i, q := range of(x) {
			wantText(t, q, texts[i])
		}
	}
}

// wantNoExpr: an expression has no text, for that, nor has a query with it, nor one of which it is a part.
func wantNoExpr(t *testing.T, x api.Expr, must api.Errno) {
	t.Helper()
	if s, e := printer.PrintExpr(x); s != "" || e != must {
		t.Errorf("PrintExpr(%s): %s, %v, want nothing, %v", short(x), short(s), e, must)
	}
	for _, q := range of(x) {
		wantNoText(t, q, must)
	}
	for _, more := range []api.Expr{made(api.OpAdd, x, integer(1)), made(api.OpOr, name("b"), x), made(api.OpIsNull, x), made(api.OpNot, made(api.OpEq, null(), made(api.OpSum, x)))} {
		if s, e := printer.PrintExpr(more); s != "" || e != must {
			t.Errorf("PrintExpr(%s): %s, %v, want nothing, %v", short(more), short(s), e, must)
		}
	}
}

// many is a text so many times.
func many(n int, s string) string { return strings.Repeat(s, n) }

// within is an expression within others of one kind, so many times.
func within(n int, op api.Op, x api.Expr) api.Expr {
	for range n {
		x = made(op, x)
	}
	return x
}
