package syntax_test

import (
	"strconv"
	"strings"
	"testing"

	"portolan/api"
)

// edgeOf is the tree of `MATCH (a)-[..]->() RETURN a`.
func edgeOf(e api.EdgePat) api.Query {
	return changed(func(q *api.Query) {
		q.Patterns[0].Nodes = append(q.Patterns[0].Nodes, api.NodePat{})
		q.Patterns[0].Edges = []api.EdgePat{e}
	})
}

// numbers are those round the bounds, and great ones.
func numbers() []string {
	return []string{"0", "1", "2", "3", "4", "5", "6", "7", "8", "9", "10", "16", "256", "257", "65536", "4294967296", "4294967297", "1099511627776", "9223372036854775807"}
}

// P8.1: all choices of the two numbers behind `*`.
func TestNumbersOfTrails(t *testing.T) {
	const ahead = "MATCH (a)-[*"
	for _, first := range numbers() {
		for _, second := range numbers() {
			s := ahead + first + ".." + second + "]->() RETURN a"
			least, _ := strconv.ParseInt(first, 10, 64)
			most, _ := strconv.ParseInt(second, 10, 64)
			switch {
			case least > maxTrail:
				wantNoQuery(t, s, len(ahead), api.ErrSyntax)
			case most > maxTrail || most < least:
				wantNoQuery(t, s, len(ahead)+len(first)+2, api.ErrSyntax)
			default:
				wantQuery(t, s, edgeOf(api.EdgePat{Mode: api.EdgeTrail, Min: int(least), Max: int(most)}))
			}
		}
	}
	wantQuery(t, ahead+"00..0008]->() RETURN a", edgeOf(api.EdgePat{Mode: api.EdgeTrail, Max: 8}))
	wantNoQuery(t, ahead+"9", len(ahead), api.ErrSyntax)
	wantNoQuery(t, ahead+"9 9", len(ahead), api.ErrSyntax)
	wantNoQuery(t, ahead+"8 9", len(ahead)+2, api.ErrSyntax)
	wantNoQuery(t, ahead+"2..1", len(ahead)+3, api.ErrSyntax)
	wantNoQuery(t, ahead+"9223372036854775808", len(ahead), api.ErrLexNumber)
}

// P8.1: the number of SHORTEST.
func TestNumbersOfShortest(t *testing.T) {
	const ahead = "MATCH (a)-[*SHORTEST "
	for _, number := range numbers() {
		s := ahead + number + "]->() RETURN a"
		if n, _ := strconv.ParseInt(number, 10, 64); n < 1 || n > maxTrail {
			wantNoQuery(t, s, len(ahead), api.ErrSyntax)
			wantNoQuery(t, ahead+number, len(ahead), api.ErrSyntax)
		} else {
			wantQuery(t, s, edgeOf(api.EdgePat{Mode: api.EdgeShort, Max: int(n)}))
		}
	}
	wantQuery(t, ahead+"01]->() RETURN a", edgeOf(api.EdgePat{Mode: api.EdgeShort, Max: 1}))
	wantNoQuery(t, ahead+"00]->() RETURN a", len(ahead), api.ErrSyntax)
}

// P8.1: the number of LIMIT.
func TestNumbersOfLimit(t *testing.T) {
	const ahead = "MATCH (a) RETURN a LIMIT "
	for _, number := range append(numbers(), "1099511627775", "1099511627777", "2199023255552", "9223372036854775806", "000001099511627776") {
		if n, _ := strconv.ParseInt(number, 10, 64); n > maxLimit {
			wantNoQuery(t, ahead+number, len(ahead), api.ErrSyntax)
			wantNoQuery(t, ahead+number+" 1", len(ahead), api.ErrSyntax)
		} else {
			wantQuery(t, ahead+number, changed(func(q *api.Query) { q.Limit = int(n) }))
			wantNoQuery(t, ahead+number+" 1", len(ahead+number)+1, api.ErrSyntax)
		}
	}
	wantNoQuery(t, ahead+"9223372036854775808", len(ahead), api.ErrLexNumber)
}

// P8.1: numbers that stand elsewhere have none of these bounds.
func TestNumbersOfExprs(t *testing.T) {
	for _, number := range numbers() {
		n, _ := strconv.ParseInt(number, 10, 64)
		wantExpr(t, number, integer(n))
		wantExpr(t, "a * "+number, made(api.OpMul, name("a"), integer(n)))
		wantExpr(t, strings.Repeat("0", 30)+number, integer(n))
		wantExpr(t, "8 * "+number+" - "+number, made(api.OpSub, made(api.OpMul, integer(8), integer(n)), integer(n)))
	}
}
