package syntax_test

import (
	"strings"
	"testing"
	"unsafe"

	"portolan/api"
	"portolan/syntax"
)

// all has every list that a tree may have, several times.
const all = `match (été:A)-[e*1..2]->()<-[:F]-(b), (c), (été) where été.x = 'it\'s' or not (b.x > 'plain') return distinct sum(b.x + 1) as n, -c.x * 2, count(*), length(e) order by n desc, m limit 5`

// wrong is the same with a word that may not stand there.
const wrong = all + " limit"

// allTree is its tree, written out.
func allTree() api.Query {
	return api.Query{
		Patterns: []api.Pattern{
			{
				Nodes: []api.NodePat{{Var: "été", Label: "A"}, {}, {Var: "b"}},
				Edges: []api.EdgePat{{Var: "e", Mode: api.EdgeTrail, Min: 1, Max: 2}, {Label: "F", Back: true}},
			},
			{Nodes: []api.NodePat{{Var: "c"}}},
			{Nodes: []api.NodePat{{Var: "été"}}},
		},
		Where: []api.Expr{made(api.OpOr, made(api.OpEq, prop("été", "x"), text("it's")), made(api.OpNot, made(api.OpGt, prop("b", "x"), text("plain"))))},
		Items: []api.Item{
			{Expr: made(api.OpSum, made(api.OpAdd, prop("b", "x"), integer(1))), Name: "n"},
			{Expr: made(api.OpMul, made(api.OpNeg, prop("c", "x")), integer(2))},
			{Expr: made(api.OpCountAll)},
			{Expr: made(api.OpLength, name("e"))},
		},
		Distinct: true,
		Keys:     []api.Key{{Name: "n", Desc: true}, {Name: "m"}},
		Limit:    5,
	}
}

// room is a list's memory, its spare room too.
type room struct {
	from, behind uintptr
	what         string
}

func roomOf[T any](what string, l []T) room {
	from := uintptr(unsafe.Pointer(unsafe.SliceData(l)))
	return room{from, from + uintptr(cap(l))*unsafe.Sizeof(*new(T)), what}
}

func roomsOfExpr(x api.Expr) []room {
	l := []room{roomOf("kids", x.Kids), roomOf("path", x.Value.Path)}
	for _, kid := range x.Kids {
		l = append(l, roomsOfExpr(kid)...)
	}
	return l
}

func roomsOf(q api.Query) []room {
	l := []room{roomOf("patterns", q.Patterns), roomOf("where", q.Where), roomOf("items", q.Items), roomOf("keys", q.Keys)}
	for _, p := range q.Patterns {
		l = append(l, roomOf("nodes", p.Nodes), roomOf("edges", p.Edges))
	}
	for _, x := range q.Where {
		l = append(l, roomsOfExpr(x)...)
	}
	for _, i := range q.Items {
		l = append(l, roomsOfExpr(i.Expr)...)
	}
	return l
}

// wantApart: no two lists have memory in common.
func wantApart(t *testing.T, l []room) {
	t.Helper()
	for i, a := range l {
		for _, b := range l[:i] {
			if a.from < b.behind && b.from < a.behind {
				t.Errorf("%s and %s share memory", a.what, b.what)
			}
		}
	}
}

// P3: no two lists of one answer share any memory, nor do those of two answers.
func TestOwnMemory(t *testing.T) {
	for _, s := range append(queries(), all) {
		a, _, e := syntax.Parse(s)
		if e != api.OK {
			t.Fatalf("%s: %v", s, e)
		}
		b, _, _ := syntax.Parse(s)
		wantApart(t, append(roomsOf(a), roomsOf(b)...))
	}
	for _, s := range []string{"a", "1 + 2 + 3 - 4 AND b AND NOT c", "SUM(a) = -MAX(b) OR a IS NULL", "COUNT(*)"} {
		a, _, _ := syntax.ParseExpr(s)
		b, _, _ := syntax.ParseExpr(s)
		wantApart(t, append(roomsOfExpr(a), roomsOfExpr(b)...))
	}
}

// spoilExpr fills an expression and its lists, their spare room too, with something else.
func spoilExpr(x *api.Expr) {
	kids := x.Kids[:cap(x.Kids)]
	for i := range kids {
		spoilExpr(&kids[i])
	}
	*x = api.Expr{Op: 99, Name: "spoilt", Prop: "spoilt", Value: api.Value{Kind: 9, Bool: true, Int: -9, Text: "spoilt", Path: []int64{9}}}
}

func spoil(q *api.Query) {
	for _, p := range q.Patterns[:cap(q.Patterns)] {
		for i := range p.Nodes[:cap(p.Nodes)] {
			p.Nodes[:cap(p.Nodes)][i] = api.NodePat{Var: "spoilt", Label: "spoilt"}
		}
		for i := range p.Edges[:cap(p.Edges)] {
			p.Edges[:cap(p.Edges)][i] = api.EdgePat{Var: "spoilt", Label: "spoilt", Back: true, Mode: 9, Min: 9, Max: 9}
		}
	}
	for i := range q.Where[:cap(q.Where)] {
		spoilExpr(&q.Where[:cap(q.Where)][i])
	}
	for i := range q.Items[:cap(q.Items)] {
		spoilExpr(&q.Items[:cap(q.Items)][i].Expr)
		q.Items[:cap(q.Items)][i].Name = "spoilt"
	}
	for i := range q.Keys[:cap(q.Keys)] {
		q.Keys[:cap(q.Keys)][i] = api.Key{Name: "spoilt", Desc: true}
	}
	clear(q.Patterns[:cap(q.Patterns)])
}

// P3: what was handed out, changed with its spare room, changes nothing of what comes then, nor of what another call told.
func TestSpoilt(t *testing.T) {
	kept, _, _ := syntax.Parse(all)
	keptExpr, _, _ := syntax.ParseExpr("a + b * -c")
	must := made(api.OpAdd, name("a"), made(api.OpMul, name("b"), made(api.OpNeg, name("c"))))
	for range 3 {
		q, _, _ := syntax.Parse(all)
		if !sameQuery(q, allTree()) {
			t.Fatalf("Parse: %s", short(q))
		}
		spoil(&q)
		x, _, _ := syntax.ParseExpr("a + b * -c")
		spoilExpr(&x)
		wantQuery(t, all, allTree())
		wantExpr(t, "a + b * -c", must)
	}
	if !sameQuery(kept, allTree()) || !sameExpr(keptExpr, must) {
		t.Errorf("the trees that were kept: %s, %s", short(kept), short(keptExpr))
	}
}

// P3: what is told stays, whatever becomes of the bytes in which the text lay; and these stand as they were.
func TestTextNotKept(t *testing.T) {
	const expr = `(été.x = 'it\'s')`
	bytes, alone := []byte("((("+all+")))"), []byte("("+expr+")")
	q, at, e := syntax.Parse(unsafe.String(&bytes[3], len(all)))
	x, _, eOfExpr := syntax.ParseExpr(unsafe.String(&alone[1], len(expr)))
	if string(bytes) != "((("+all+")))" || string(alone) != "("+expr+")" {
		t.Errorf("what was handed in is %q, %q", bytes, alone)
	}
	for i := range bytes {
		bytes[i] = '?'
	}
	for i := range alone {
		alone[i] = '?'
	}
	if !sameQuery(q, allTree()) || at != 0 || e != api.OK {
		t.Errorf("the text's bytes spoilt: %s, %d, %v", short(q), at, e)
	}
	if !sameExpr(x, made(api.OpEq, prop("été", "x"), text("it's"))) || eOfExpr != api.OK {
		t.Errorf("the text's bytes spoilt: %s, %v", short(x), eOfExpr)
	}
}

// P3: what comes of a text does not hang on what was asked ahead of it, be that refused or not.
func TestNothingKept(t *testing.T) {
	for _, s := range append(queries(), wrong, "", "$", "MATCH (", strings.Repeat("(", 60), "a + ", strings.Repeat("NOT ", 60)+"a", "MATCH (a) RETURN "+strings.Repeat("-", 51)+"a") {
		q, at, e := syntax.Parse(s)
		x, atOfExpr, eOfExpr := syntax.ParseExpr(s)
		wantQuery(t, all, allTree())
		wantExpr(t, strings.Repeat("(", 50)+"a"+strings.Repeat(")", 50), name("a"))
		again, atAgain, eAgain := syntax.Parse(s)
		if !sameQuery(q, again) || at != atAgain || e != eAgain {
			t.Errorf("Parse(%s): %s, %d, %v, then %s, %d, %v", short(s), short(q), at, e, short(again), atAgain, eAgain)
		}
		exprAgain, atAgain, eAgain := syntax.ParseExpr(s)
		if !sameExpr(x, exprAgain) || atOfExpr != atAgain || eOfExpr != eAgain {
			t.Errorf("ParseExpr(%s): %s, %d, %v, then %s, %d, %v", short(s), short(x), atOfExpr, eOfExpr, short(exprAgain), atAgain, eAgain)
		}
	}
	wantNoQuery(t, wrong, len(all)+1, api.ErrSyntax)
}

// P3: many at once tell the same as one alone, those that are refused among them.
func TestAtOnce(t *testing.T) {
	done := make(chan api.Query)
	for range 8 {
		go func() {
			var q api.Query
			for range 100 {
				syntax.Parse(wrong)
				syntax.ParseExpr(strings.Repeat("(", 60))
				q, _, _ = syntax.Parse(all)
			}
			done <- q
		}()
	}
	for range 8 {
		if q := <-done; !sameQuery(q, allTree()) {
			t.Errorf("Parse: %s", short(q))
		}
	}
}
