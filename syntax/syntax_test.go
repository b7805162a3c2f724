package syntax_test

import (
	"strings"
	"testing"

	"portolan/api"
)

// The examples of the chapter.
func TestExamples(t *testing.T) {
	wantQuery(t, "MATCH (a:A)-[:E]->(b) RETURN b.x AS n LIMIT 3", api.Query{
		Patterns: []api.Pattern{{Nodes: []api.NodePat{{Var: "a", Label: "A"}, {Var: "b"}}, Edges: []api.EdgePat{{Label: "E"}}}},
		Items:    []api.Item{{Expr: prop("b", "x"), Name: "n"}},
		Limit:    3,
	})
	wantQuery(t, "MATCH (a)<-[e*1..2]-() RETURN COUNT(*)", api.Query{
		Patterns: []api.Pattern{{Nodes: []api.NodePat{{Var: "a"}, {}}, Edges: []api.EdgePat{{Var: "e", Back: true, Mode: api.EdgeTrail, Min: 1, Max: 2}}}},
		Items:    []api.Item{{Expr: made(api.OpCountAll)}},
		Limit:    -1,
	})
	wantExpr(t, "1 + 2 * 3 = a.x AND NOT b", made(api.OpAnd,
		made(api.OpEq, made(api.OpAdd, integer(1), made(api.OpMul, integer(2), integer(3))), prop("a", "x")),
		made(api.OpNot, name("b"))))
	wantNoQuery(t, "MATCH (a", 8, api.ErrSyntax)
	wantNoQuery(t, "MATCH (a) RETURN", 16, api.ErrSyntax)
	wantNoQuery(t, "MATCH (a) RETURN a LIMIT x", 25, api.ErrSyntax)
}

// P8.1: the least that is a query, and each part that may be left out, alone.
func TestEachPart(t *testing.T) {
	wantQuery(t, "MATCH (a) RETURN a", asked("a"))
	wantQuery(t, "MATCH (a) WHERE b RETURN a", changed(func(q *api.Query) { q.Where = []api.Expr{name("b")} }))
	wantQuery(t, "MATCH (a) RETURN DISTINCT a", changed(func(q *api.Query) { q.Distinct = true }))
	wantQuery(t, "MATCH (a) RETURN a ORDER BY n", changed(func(q *api.Query) { q.Keys = []api.Key{{Name: "n"}} }))
	wantQuery(t, "MATCH (a) RETURN a LIMIT 7", changed(func(q *api.Query) { q.Limit = 7 }))
	wantQuery(t, "MATCH (a) RETURN a AS n", changed(func(q *api.Query) { q.Items[0].Name = "n" }))
	wantQuery(t, "MATCH (a), (b) RETURN a", changed(func(q *api.Query) {
		q.Patterns = append(q.Patterns, api.Pattern{Nodes: []api.NodePat{{Var: "b"}}})
	}))
	wantQuery(t, "MATCH (a) RETURN a, b", changed(func(q *api.Query) { q.Items = append(q.Items, api.Item{Expr: name("b")}) }))
}

// P8.1: each choice of the parts that may be left out.
func TestEachChoiceOfParts(t *testing.T) {
	for i := range 32 {
		q, s := asked("a"), "MATCH (a)"
		if i&1 != 0 {
			s += " WHERE TRUE"
			q.Where = []api.Expr{truth(true)}
		}
		s += " RETURN"
		if i&2 != 0 {
			s += " DISTINCT"
			q.Distinct = true
		}
		s += " a"
		if i&4 != 0 {
			s += " AS n"
			q.Items[0].Name = "n"
		}
		if i&8 != 0 {
			s += " ORDER BY n DESC"
			q.Keys = []api.Key{{Name: "n", Desc: true}}
		}
		if i&16 != 0 {
			s += " LIMIT 0"
			q.Limit = 0
		}
		wantQuery(t, s, q)
		wantNoQuery(t, s+" WHERE TRUE", len(s)+1, api.ErrSyntax)
		wantNoQuery(t, s+" MATCH (a)", len(s)+1, api.ErrSyntax)
	}
}

// P8.1: nodes with and without name and label; one, several, far apart, patterns one behind the other.
func TestNodes(t *testing.T) {
	for s, n := range map[string]api.NodePat{"()": {}, "(b)": {Var: "b"}, "(:B)": {Label: "B"}, "(b:B)": {Var: "b", Label: "B"}, "(b:b)": {Var: "b", Label: "b"}, "(É:été)": {Var: "É", Label: "été"}} {
		first := func(q *api.Query) { q.Patterns[0].Nodes[0] = n }
		wantQuery(t, "MATCH "+s+" RETURN a", changed(first))
		wantQuery(t, "MATCH "+s+"-[]->"+s+"<-[]-"+s+" RETURN a", changed(first, func(q *api.Query) {
			q.Patterns[0] = api.Pattern{Nodes: []api.NodePat{n, n, n}, Edges: []api.EdgePat{{}, {Back: true}}}
		}))
		wantQuery(t, "MATCH "+s+","+s+","+s+" RETURN a", changed(first, func(q *api.Query) {
			one := api.Pattern{Nodes: []api.NodePat{n}}
			q.Patterns = []api.Pattern{one, one, one}
		}))
	}
}

// bodies are what may stand in an edge.
func bodies() map[string]api.EdgePat {
	all := make(map[string]api.EdgePat)
	for names, e := range map[string]api.EdgePat{"": {}, "e": {Var: "e"}, ":E": {Label: "E"}, "e:E": {Var: "e", Label: "E"}, "e:e": {Var: "e", Label: "e"}} {
		all[names] = e
		e.Mode, e.Min, e.Max = api.EdgeTrail, 1, 3
		all[names+"*1..3"] = e
		e.Min, e.Max = 0, 0
		all[names+"*0..0"] = e
		e.Mode, e.Max = api.EdgeShort, 5
		all[names+"*SHORTEST 5"] = e
	}
	return all
}

// P8.1: edges of all modes, with and without name and label, forward and backward.
func TestEdges(t *testing.T) {
	with := func(l ...api.EdgePat) api.Query {
		return changed(func(q *api.Query) {
			for range l {
				q.Patterns[0].Nodes = append(q.Patterns[0].Nodes, api.NodePat{})
			}
			q.Patterns[0].Edges = l
		})
	}
	for s, e := range bodies() {
		back := e
		back.Back = true
		wantQuery(t, "MATCH (a)-["+s+"]->() RETURN a", with(e))
		wantQuery(t, "MATCH (a)<-["+s+"]-() RETURN a", with(back))
		wantQuery(t, "MATCH (a)<-["+s+"]-()-["+s+"]->()-["+s+"]->() RETURN a", with(back, e, e))
	}
}

// P8.1: which words stand in an edge, and round it: none more, none less, in no other order.
func TestNoEdges(t *testing.T) {
	for s, at := range map[string]int{
		"-[]-()": 4, "<-[]->()": 5, "->()": 1, "--()": 1, "-->()": 1, "<--()": 2, "<[]-()": 1, "[]->()": 0, "-[->()": 2, "-]->()": 1, "-[]>()": 3,
		"-[]->-[]->()": 5, "-[]->,()": 5, "<-[]-<-[]-()": 5, "-[]-->()": 4, "- [] - - ()": 7, "-[e f]->()": 4, "-[:]->()": 3, "-[::E]->()": 3, "-[:E:F]->()": 4, "-[e:E e]->()": 6,
		"-[e:E:F]->()": 5, "-[*]->()": 3, "-[*1]->()": 4, "-[*1..]->()": 6, "-[*..2]->()": 3, "-[*1.2]->()": 4, "-[*1..2..3]->()": 7, "-[*1..2 e]->()": 8, "-[*1..2:E]->()": 7, "-[**]->()": 3,
		"-[*SHORTEST]->()": 11, "-[*SHORTEST 1..2]->()": 13, "-[SHORTEST 1]->()": 2, "-[*1 SHORTEST]->()": 5, "-[1]->()": 2, "-[1..2]->()": 2, "-['e']->()": 2, "-[:'E']->()": 3, "-[*'1'..2]->()": 3, "-[*a..b]->()": 3,
		"-[*-1..2]->()": 3, "-[*SHORTEST -1]->()": 12, "-[COUNT]->()": 2, "-[:COUNT]->()": 3, "-[.]->()": 2, "-[e.x]->()": 3, "-[()]->()": 2, "-(e)->()": 1, "<>[]-()": 0, "<=[]-()": 0, "-[e=f]->()": 3, "-[]>=()": 3, "-[]-'>'()": 4,
		"=[]=()": 0, "()": 0, ">-[]-()": 0, "-[]-<()": 4, "-[],->()": 3, "-[e,f]->()": 3, "-[]->[]": 5, "-[]->a": 5,
	} {
		wantNoQuery(t, "MATCH (a)"+s+" RETURN a", len("MATCH (a)")+at, api.ErrSyntax)
		wantNoQuery(t, "MATCH (a), ()-[]->()"+s+", () RETURN a", len("MATCH (a), ()-[]->()")+at, api.ErrSyntax)
	}
	wantNoQuery(t, "MATCH (a)-[]->", 14, api.ErrSyntax)
	wantNoQuery(t, "MATCH (a)-[]-> RETURN a", 15, api.ErrSyntax)
	for s, at := range map[string]int{"(": 1, "(a": 2, "(a:": 3, "(a:A": 4, "(:)": 2, "(a b)": 3, "(a:A b)": 5, "(a,b)": 2, "(a:A:B)": 4, "(1)": 1, "('a')": 1, "(MATCH)": 1, "(a:MATCH)": 3, "(a.x)": 2, "(*)": 1, "((a))": 1, "a": 0, "[a]": 0, "": 0, ",(a)": 0, "(a),": 4, "(a)(b)": 3, "(a),,(b)": 4, "()a": 2, "(a=b)": 2, ")": 0} {
		wantNoQuery(t, "MATCH "+s, len("MATCH ")+at, api.ErrSyntax)
	}
}

// P8.1: items, with and without names, and of all there is.
func TestItems(t *testing.T) {
	wantQuery(t, "MATCH (a) RETURN a AS a, a AS a, 'a' AS été, a = b AS c, NULL, COUNT(a) AS d", changed(func(q *api.Query) {
		q.Items = []api.Item{{Expr: name("a"), Name: "a"}, {Expr: name("a"), Name: "a"}, {Expr: text("a"), Name: "été"},
			{Expr: made(api.OpEq, name("a"), name("b")), Name: "c"}, {Expr: null()}, {Expr: made(api.OpCount, name("a")), Name: "d"}}
	}))
	for s, at := range map[string]int{"": 0, ",": 0, "a,": 2, "a,,b": 2, "a b": 2, "a AS": 4, "a AS 1": 5, "a AS 'n'": 5, "a AS COUNT": 5, "a AS n m": 7, "a AS n.x": 6, "a AS n AS m": 7, "AS n": 0, "DISTINCT": 8, "DISTINCT DISTINCT a": 9, "a DISTINCT": 2, "a, DISTINCT b": 3, "(a, b)": 2, "(a AS n)": 3, "*": 0, "a RETURN b": 2, "a WHERE b": 2} {
		wantNoQuery(t, "MATCH (a) RETURN "+s, len("MATCH (a) RETURN ")+at, api.ErrSyntax)
	}
}

// P8.1: keys, each with ASC, DESC, or neither.
func TestKeys(t *testing.T) {
	wantQuery(t, "MATCH (a) RETURN a ORDER BY n, m ASC, k DESC, n, été DESC, n ASC", changed(func(q *api.Query) {
		q.Keys = []api.Key{{Name: "n"}, {Name: "m"}, {Name: "k", Desc: true}, {Name: "n"}, {Name: "été", Desc: true}, {Name: "n"}}
	}))
	for s, at := range map[string]int{"ORDER": 5, "BY n": 0, "ORDER n": 6, "ORDER BY": 8, "ORDER BY 1": 9, "ORDER BY 'n'": 9, "ORDER BY a.x": 10, "ORDER BY n,": 11, "ORDER BY n m": 11, "ORDER BY ASC": 9, "ORDER BY n ASC DESC": 15, "ORDER BY n DESC ASC": 16, "ORDER BY n DESC DESC": 16, "ORDER BY -n": 9, "ORDER BY (n)": 9, "ORDER BY COUNT": 9, "ORDER ORDER BY n": 6, "ORDER BY BY n": 9, "ORDER BY n ORDER BY m": 11, "ASC": 0, "DESC": 0, "ORDER BY n, DESC": 12, "ORDER BY n AS m": 11} {
		wantNoQuery(t, "MATCH (a) RETURN a "+s, len("MATCH (a) RETURN a ")+at, api.ErrSyntax)
	}
}

// P8.1: the parts of a query stand in this order, each once; what must be there is there.
func TestOrderOfParts(t *testing.T) {
	for s, at := range map[string]int{
		"": 0, "   ": 3, "\n": 1, "MATCH": 5, "MATCH ": 6, "(a)": 0, "RETURN a": 0, "a": 0, "1": 0, "'MATCH' (a) RETURN a": 0, "MATCHES (a) RETURN a": 0, "MATCH MATCH (a) RETURN a": 6, "MATCH RETURN a": 6,
		"MATCH (a)": 9, "MATCH (a) ": 10, "MATCH (a) WHERE": 15, "MATCH (a) WHERE RETURN a": 16, "MATCH (a) WHERE b": 17, "MATCH (a) WHERE b WHERE c RETURN a": 18, "MATCH (a) WHERE b, c RETURN a": 17, "MATCH (a), WHERE b RETURN a": 11,
		"MATCH (a) LIMIT 3": 10, "MATCH (a) ORDER BY n RETURN a": 10, "MATCH (a) RETURN a LIMIT 3 ORDER BY n": 27, "MATCH (a) RETURN a LIMIT 3 LIMIT 3": 27, "MATCH (a) RETURN a LIMIT": 24, "MATCH (a) RETURN a LIMIT -1": 25, "MATCH (a) RETURN a LIMIT 1 2": 27,
		"MATCH (a) RETURN a LIMIT '3'": 25, "MATCH (a) RETURN a LIMIT (3)": 25, "MATCH (a) RETURN a LIMIT 1+1": 26, "MATCH (a) RETURN a LIMIT NULL": 25, "MATCH (a) AND (b) RETURN a": 10, "MATCH (a) RETURN a RETURN b": 19, "MATCH (a) RETURN a;": 18, "WHERE b MATCH (a) RETURN a": 0, "MATCH (a) RETURN a, MATCH": 20,
	} {
		if strings.HasSuffix(s, ";") {
			wantNoQuery(t, s, at, api.ErrLexRune)
			continue
		}
		wantNoQuery(t, s, at, api.ErrSyntax)
	}
}

// P8.1: what lex refuses is told as lex tells it, whatever else is wrong ahead of it.
func TestLexRefuses(t *testing.T) {
	for s, e := range map[string]api.Errno{"$": api.ErrLexRune, "\xff": api.ErrLexRune, "'a": api.ErrLexText, `'\x'`: api.ErrLexText, "9223372036854775808": api.ErrLexNumber, strings.Repeat("x", 33): api.ErrLexName} {
		for _, ahead := range []string{"", "MATCH (a) RETURN ", ") ) ", "MATCH MATCH ", "1 2 3 ", strings.Repeat("(", 60), strings.Repeat("NOT ", 60), "MATCH (a)-[*9..1]->() RETURN a LIMIT 1099511627777 "} {
			wantNoQuery(t, ahead+s, len(ahead), e)
			wantNoExpr(t, ahead+s, len(ahead), e)
			wantNoQuery(t, ahead+s+" $", len(ahead), e)
		}
	}
	for _, part := range []string{" ", "a", "(", "MATCH ", "$", "'"} {
		wantNoQuery(t, strings.Repeat(part, maxQuery/len(part)+1), 0, api.ErrTooMany)
		wantNoExpr(t, strings.Repeat(part, maxQuery/len(part)+1), 0, api.ErrTooMany)
	}
	const right = "MATCH (a) RETURN a"
	wantQuery(t, right+strings.Repeat(" ", maxQuery-len(right)), asked("a"))
	wantNoQuery(t, right+strings.Repeat(" ", maxQuery-len(right)+1), 0, api.ErrTooMany)
}

// P8.1: names as they stand, alike or not; keys are no names, longer words with keys in them are.
func TestNames(t *testing.T) {
	for _, s := range []string{"a", "A", "_", "été", "É9", "x1", "matches", "Match_", "_match", "orderby", "isnot", "nulls", strings.Repeat("n", 32), "ſum", "lımıt"} {
		wantQuery(t, "MATCH ("+s+":"+s+")-["+s+":"+s+"]->("+s+") WHERE "+s+" RETURN "+s+"."+s+" AS "+s+" ORDER BY "+s+" DESC", api.Query{
			Patterns: []api.Pattern{{Nodes: []api.NodePat{{Var: s, Label: s}, {Var: s}}, Edges: []api.EdgePat{{Var: s, Label: s}}}},
			Where:    []api.Expr{name(s)},
			Items:    []api.Item{{Expr: prop(s, s), Name: s}},
			Keys:     []api.Key{{Name: s, Desc: true}},
			Limit:    -1,
		})
	}
	for _, k := range strings.Fields("MATCH where Return DISTINCT order BY asc DESC limit AS and OR not IS null TRUE false SHORTEST length COUNT sum MIN Max") {
		for _, ahead := range []string{"MATCH (", "MATCH (a:", "MATCH (a)-[", "MATCH (a)-[e:", "MATCH (a) RETURN a.", "MATCH (a) RETURN a AS ", "MATCH (a) RETURN a ORDER BY ", "MATCH (a) WHERE a."} {
			wantNoQuery(t, ahead+k, len(ahead), api.ErrSyntax)
		}
	}
}

// P8.1: queries as long as may be.
func TestLongQueries(t *testing.T) {
	count := (maxQuery - len("MATCH () RETURN a")) / len("-[]->()")
	long := changed(func(q *api.Query) {
		q.Patterns[0].Nodes = make([]api.NodePat, count+1)
		q.Patterns[0].Edges = make([]api.EdgePat, count)
	})
	wantQuery(t, "MATCH ()"+strings.Repeat("-[]->()", count)+" RETURN a", long)
	count = (maxQuery - len("MATCH (a) RETURN a")) / 2
	many := changed(func(q *api.Query) {
		for range count {
			q.Items = append(q.Items, api.Item{Expr: name("a")})
		}
	})
	wantQuery(t, "MATCH (a) RETURN a"+strings.Repeat(",a", count), many)
	count = (maxQuery - len("MATCH (a) RETURN a")) / 3
	wide := changed(func(q *api.Query) {
		for range count {
			q.Patterns = append(q.Patterns, api.Pattern{Nodes: []api.NodePat{{}}})
		}
	})
	wantQuery(t, "MATCH (a)"+strings.Repeat(",()", count)+" RETURN a", wide)
	count = (maxQuery - len("MATCH (a) RETURN a ORDER BY n")) / 2
	ordered := changed(func(q *api.Query) {
		for range count + 1 {
			q.Keys = append(q.Keys, api.Key{Name: "n"})
		}
	})
	wantQuery(t, "MATCH (a) RETURN a ORDER BY n"+strings.Repeat(",n", count), ordered)
}
