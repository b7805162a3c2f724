package syntax_test

import (
	"fmt"
	"slices"
	"strconv"
	"testing"

	"portolan/api"
	"portolan/syntax"
)

// The document's bounds, written out once more.
const (
	maxQuery = 4096
	maxDeep  = 50
	maxTrail = 8
	maxLimit = 1099511627776
)

func null() api.Expr { return api.Expr{Op: api.OpLit} }

func truth(b bool) api.Expr {
	return api.Expr{Op: api.OpLit, Value: api.Value{Kind: api.Bool, Bool: b}}
}

func integer(n int64) api.Expr {
	return api.Expr{Op: api.OpLit, Value: api.Value{Kind: api.Int, Int: n}}
}

func text(s string) api.Expr {
	return api.Expr{Op: api.OpLit, Value: api.Value{Kind: api.Text, Text: s}}
}

func name(s string) api.Expr { return api.Expr{Op: api.OpVar, Name: s} }

func prop(s, p string) api.Expr { return api.Expr{Op: api.OpProp, Name: s, Prop: p} }

func made(op api.Op, kids ...api.Expr) api.Expr { return api.Expr{Op: op, Kids: kids} }

// sameExpr holds all fields against each other; an empty list may be nil or not.
func sameExpr(a, b api.Expr) bool {
	return a.Op == b.Op && slices.EqualFunc(a.Kids, b.Kids, sameExpr) && a.Name == b.Name && a.Prop == b.Prop && sameValue(a.Value, b.Value)
}

func sameValue(a, b api.Value) bool {
	return a.Kind == b.Kind && a.Bool == b.Bool && a.Int == b.Int && a.Text == b.Text && slices.Equal(a.Path, b.Path)
}

func samePattern(a, b api.Pattern) bool {
	return slices.Equal(a.Nodes, b.Nodes) && slices.Equal(a.Edges, b.Edges)
}

func sameItem(a, b api.Item) bool { return a.Name == b.Name && sameExpr(a.Expr, b.Expr) }

func sameQuery(a, b api.Query) bool {
	return slices.EqualFunc(a.Patterns, b.Patterns, samePattern) && slices.EqualFunc(a.Where, b.Where, sameExpr) &&
		a.Distinct == b.Distinct && slices.EqualFunc(a.Items, b.Items, sameItem) && slices.Equal(a.Keys, b.Keys) && a.Limit == b.Limit
}

// short writes something out, cut off if it is long.
func short(x any) string {
	s := fmt.Sprintf("%+v", x)
	if len(s) > 700 {
		s = s[:700] + " .."
	}
	return strconv.QuoteToASCII(s)
}

// wantQuery: a text is just this tree.
func wantQuery(t *testing.T, s string, must api.Query) {
	t.Helper()
	q, at, e := syntax.Parse(s)
	if !sameQuery(q, must) || at != 0 || e != api.OK {
		t.Errorf("Parse(%s): %s, %d, %v, want %s, 0, OK", short(s), short(q), at, e, short(must))
	}
}

// wantNoQuery: a text is refused there, for that, and nothing else is told.
func wantNoQuery(t *testing.T, s string, mustAt int, must api.Errno) {
	t.Helper()
	q, at, e := syntax.Parse(s)
	if !sameQuery(q, api.Query{}) || at != mustAt || e != must {
		t.Errorf("Parse(%s): %s, %d, %v, want nothing, %d, %v", short(s), short(q), at, e, mustAt, must)
	}
}

// wantExpr: a text is just this tree, alone, and as an expression of a query, wherever one may stand there.
func wantExpr(t *testing.T, s string, must api.Expr) {
	t.Helper()
	x, at, e := syntax.ParseExpr(s)
	if !sameExpr(x, must) || at != 0 || e != api.OK {
		t.Errorf("ParseExpr(%s): %s, %d, %v, want %s, 0, OK", short(s), short(x), at, e, short(must))
	}
	if len(s) > 1000 {
		return
	}
	q := asked("")
	q.Items = []api.Item{{Expr: must}}
	wantQuery(t, "MATCH () RETURN "+s, q)
	q.Items = []api.Item{{Expr: must, Name: "n"}, {Expr: must}}
	q.Where = []api.Expr{must}
	wantQuery(t, "MATCH () WHERE "+s+" RETURN "+s+" AS n, "+s, q)
}

// wantNoExpr: a text is refused there, for that, and nothing else is told.
func wantNoExpr(t *testing.T, s string, mustAt int, must api.Errno) {
	t.Helper()
	x, at, e := syntax.ParseExpr(s)
	if !sameExpr(x, api.Expr{}) || at != mustAt || e != must {
		t.Errorf("ParseExpr(%s): %s, %d, %v, want nothing, %d, %v", short(s), short(x), at, e, mustAt, must)
	}
}

// asked is the tree of `MATCH (a) RETURN a`, its node's name that.
func asked(node string) api.Query {
	return api.Query{
		Patterns: []api.Pattern{{Nodes: []api.NodePat{{Var: node}}}},
		Items:    []api.Item{{Expr: name("a")}},
		Limit:    -1,
	}
}

// change is something done to asked.
type change func(q *api.Query)

func changed(l ...change) api.Query {
	q := asked("a")
	for _, do := range l {
		do(&q)
	}
	return q
}
