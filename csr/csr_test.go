package csr_test

import (
	"fmt"
	"math"
	"slices"
	"testing"

	"portolan/api"
	"portolan/csr"
	"portolan/tables"
)

// The examples of the chapter.
func TestExamples(t *testing.T) {
	g := loaded(t, api.Raw{
		NodeTypes: named("A"),
		EdgeTypes: named("E"),
		Nodes:     nodes(3, 7),
		Edges:     []api.RawEdge{edge(5, "E", 7, 3), edge(6, "E", 7, 7)},
	})
	forward, backward := built(t, g, 0, false), built(t, g, 0, true)
	wantList(t, "forward: Of(1)", forward.Of(1), api.Adj{Node: 0, Edge: 0}, api.Adj{Node: 1, Edge: 1})
	want(t, "forward: Degree(0)", forward.Degree(0), 0)
	wantList(t, "backward: Of(0)", backward.Of(0), api.Adj{Node: 1, Edge: 0})
	wantList(t, "backward: Between(1, 1)", backward.Between(1, 1), 1)
	wantMeet(t, []int{3, 5}, []int{1, 3, 5}, []int{3, 4, 5, 6})
	wantNoMeet(t, api.ErrCsrOrder, []int{2, 1})
}

// wantNoIndex: Build answers nil and an error, forward and backward.
func wantNoIndex(t *testing.T, g *tables.Graph, of int, must api.Errno) {
	t.Helper()
	for _, back := range []bool{false, true} {
		if x, e := csr.Build(g, of, back); x != nil || e != must {
			t.Errorf("Build(%d, %t): %v, %v, want nil, %v", of, back, x, e, must)
		}
	}
}

// P6.1, X1; P2: a graph that is nil is told ahead of any type.
func TestNilGraph(t *testing.T) {
	for _, of := range append(outside(), upTo(66)...) {
		wantNoIndex(t, nil, of, api.ErrArg)
	}
}

// P6.1, X1: types below -1, beyond the last one; the types of edges count, not those of nodes.
func TestNoSuchType(t *testing.T) {
	g := loaded(t, graph())
	for _, of := range []int{math.MinInt, -1 << 32, -64, -5, -3, -2, 5, 6, 7, 63, 64, 65, 1 << 32, 1<<32 + 1, math.MaxInt} {
		wantNoIndex(t, g, of, api.ErrCsrType)
	}
	for _, of := range []int{-1, none, ofE, void, ofF, last} {
		for _, back := range []bool{false, true} {
			built(t, g, of, back)
		}
	}
	r := graph()
	r.NodeTypes, r.EdgeTypes, r.Edges = named("A B C D"), named("E"), nil
	g = loaded(t, r)
	built(t, g, 0, false)
	for of := 1; of < 5; of++ {
		wantNoIndex(t, g, of, api.ErrCsrType)
	}
}

// P6.1, X1: as many types as may be.
func TestManyTypes(t *testing.T) {
	r := api.Raw{NodeTypes: named("A"), Nodes: nodes(0, 1)}
	for of := range api.MaxTypes {
		label := fmt.Sprint("T", of)
		r.EdgeTypes = append(r.EdgeTypes, api.TypeDecl{Label: label})
		r.Edges = append(r.Edges, edge(int64(of), label, int64(of%2), 1))
	}
	g := loaded(t, r)
	for of := range api.MaxTypes {
		x := built(t, g, of, false)
		want(t, "Total", x.Total(), 1)
		wantList(t, "Of", x.Of(of%2), api.Adj{Node: 1, Edge: of})
		wantList(t, "Of", x.Of(1-of%2))
	}
	want(t, "Total of -1", built(t, g, -1, true).Degree(1), api.MaxTypes)
	wantNoIndex(t, g, api.MaxTypes, api.ErrCsrType)
}

// wantEmpty: no node has neighbours.
func wantEmpty(t *testing.T, x *csr.Index) {
	t.Helper()
	want(t, "Total", x.Total(), 0)
	for _, node := range append(outside(), upTo(8)...) {
		wantAlone(t, x, node)
	}
}

// wantAlone: a node has no neighbours, or there is none.
func wantAlone(t *testing.T, x *csr.Index, node int) {
	t.Helper()
	wantList(t, fmt.Sprintf("Of(%d)", node), x.Of(node))
	want(t, fmt.Sprintf("Degree(%d)", node), x.Degree(node), 0)
	wantList(t, fmt.Sprintf("Nodes(%d)", node), x.Nodes(node))
	for _, other := range append(outside(), upTo(8)...) {
		wantList(t, fmt.Sprintf("Between(%d, %d)", node, other), x.Between(node, other))
	}
}

// P6.1: of a graph of nothing, with and without types; of nodes without edges; of types without edges among others.
func TestNoEdges(t *testing.T) {
	for _, r := range []api.Raw{
		{},
		{NodeTypes: named("A")},
		{NodeTypes: named("A"), Nodes: nodes(1, 2, 3)},
	} {
		for _, back := range []bool{false, true} {
			wantEmpty(t, built(t, loaded(t, r), -1, back))
			typed := r
			typed.EdgeTypes = named("E F")
			for of := -1; of < 2; of++ {
				wantEmpty(t, built(t, loaded(t, typed), of, back))
			}
		}
		wantNoIndex(t, loaded(t, r), 0, api.ErrCsrType)
	}
	for _, of := range []int{none, void, last} {
		wantEmpty(t, built(t, loaded(t, graph()), of, false))
		wantEmpty(t, built(t, loaded(t, graph()), of, true))
	}
	wantEmpty(t, built(t, new(tables.Graph), -1, false))
	wantNoIndex(t, new(tables.Graph), 0, api.ErrCsrType)
}

// P6.1, X2: nodes below 0, at the end, beyond, are none, though others have edges.
func TestNoSuchNode(t *testing.T) {
	g := loaded(t, graph())
	for _, of := range []int{-1, ofE, ofF} {
		for _, back := range []bool{false, true} {
			for _, node := range append(outside(), 6, 7, 8, 9, 10) {
				wantAlone(t, built(t, g, of, back), node)
			}
		}
	}
}

// adjs are neighbours: a node, an edge, and so on.
func adjs(l ...int) []api.Adj {
	var out []api.Adj
	for i := 0; i < len(l); i += 2 {
		out = append(out, api.Adj{Node: l[i], Edge: l[i+1]})
	}
	return out
}

// wantNeighbours holds what an index of graph tells of its nodes against all of them, written out.
func wantNeighbours(t *testing.T, what string, x *csr.Index, must map[int][]api.Adj) {
	t.Helper()
	total := 0
	for node := range 6 {
		told := must[node]
		total += len(told)
		wantList(t, fmt.Sprintf("%s: Of(%d)", what, node), x.Of(node), told...)
		want(t, fmt.Sprintf("%s: Degree(%d)", what, node), x.Degree(node), len(told))
		var once []int
		for other := range 7 {
			var edges []int
			for _, a := range told {
				if a.Node == other {
					edges = append(edges, a.Edge)
				}
			}
			if len(edges) > 0 {
				once = append(once, other)
			}
			wantList(t, fmt.Sprintf("%s: Between(%d, %d)", what, node, other), x.Between(node, other), edges...)
		}
		wantList(t, fmt.Sprintf("%s: Nodes(%d)", what, node), x.Nodes(node), once...)
	}
	want(t, what+": Total", x.Total(), total)
}

// P6.1, X1, X2: loops, several edges between the same nodes, of one type and of two, forward and backward.
func TestNeighbours(t *testing.T) {
	g := loaded(t, graph())
	wantNeighbours(t, "E", built(t, g, ofE, false), map[int][]api.Adj{
		1: adjs(0, 6, 1, 3, 1, 7, 4, 2, 4, 5), 2: adjs(5, 9), 4: adjs(1, 0)})
	wantNeighbours(t, "E, back", built(t, g, ofE, true), map[int][]api.Adj{
		0: adjs(1, 6), 1: adjs(1, 3, 1, 7, 4, 0), 4: adjs(1, 2, 1, 5), 5: adjs(2, 9)})
	wantNeighbours(t, "F", built(t, g, ofF, false), map[int][]api.Adj{
		1: adjs(1, 4, 4, 1), 4: adjs(0, 8)})
	wantNeighbours(t, "F, back", built(t, g, ofF, true), map[int][]api.Adj{
		0: adjs(4, 8), 1: adjs(1, 4), 4: adjs(1, 1)})
	wantNeighbours(t, "all", built(t, g, -1, false), map[int][]api.Adj{
		1: adjs(0, 6, 1, 3, 1, 4, 1, 7, 4, 1, 4, 2, 4, 5), 2: adjs(5, 9), 4: adjs(0, 8, 1, 0)})
	wantNeighbours(t, "all, back", built(t, g, -1, true), map[int][]api.Adj{
		0: adjs(1, 6, 4, 8), 1: adjs(1, 3, 1, 4, 1, 7, 4, 0), 4: adjs(1, 1, 1, 2, 1, 5), 5: adjs(2, 9)})
}

// P6.1, X2: Between of nodes that are no neighbours, that are not there; it tells edges one way only.
func TestBetween(t *testing.T) {
	g := loaded(t, graph())
	all, back := built(t, g, -1, false), built(t, g, -1, true)
	wantList(t, "Between(1, 4)", all.Between(1, 4), 1, 2, 5)
	wantList(t, "Between(4, 1)", all.Between(4, 1), 0)
	wantList(t, "back: Between(1, 4)", back.Between(1, 4), 0)
	wantList(t, "back: Between(4, 1)", back.Between(4, 1), 1, 2, 5)
	wantList(t, "Between(1, 1)", all.Between(1, 1), 3, 4, 7)
	for _, other := range append(outside(), 2, 3, 5, 6, 7) {
		wantList(t, fmt.Sprintf("Between(1, %d)", other), all.Between(1, other))
		wantList(t, fmt.Sprintf("Between(%d, 1)", other), all.Between(other, 1))
	}
	for _, other := range outside() {
		wantList(t, fmt.Sprintf("Between(%d, %d)", other, other), all.Between(other, other))
	}
}

// wantBothWays: an edge stands in each of two indexes once, with its ends changing places, and nothing else stands there.
func wantBothWays(t *testing.T, g *tables.Graph, of int) {
	t.Helper()
	forward, backward := built(t, g, of, false), built(t, g, of, true)
	total := 0
	for i := range g.Edges() {
		from, to := g.Ends(i)
		there := 0
		if of == -1 || g.EdgeType(i) == of {
			there = 1
		}
		total += there
		for a := range g.Nodes() {
			for _, b := range forward.Of(a) {
				want(t, "it stands the other way too", slices.Contains(backward.Of(b.Node), api.Adj{Node: a, Edge: b.Edge}), true)
			}
			must := 0
			if a == from {
				must = there
			}
			want(t, fmt.Sprintf("edge %d from %d", i, a), times(forward.Of(a), api.Adj{Node: to, Edge: i}), must)
			must = 0
			if a == to {
				must = there
			}
			want(t, fmt.Sprintf("edge %d back from %d", i, a), times(backward.Of(a), api.Adj{Node: from, Edge: i}), must)
		}
	}
	want(t, "Total", forward.Total(), total)
	want(t, "Total, back", backward.Total(), total)
}

func times[T comparable](l []T, x T) int {
	n := 0
	for _, y := range l {
		if x == y {
			n++
		}
	}
	return n
}

// P6.2: both ways; a graph whose edges are turned round is the same backward as this one forward.
func TestBothWays(t *testing.T) {
	g := loaded(t, graph())
	r := graph()
	for i := range r.Edges {
		r.Edges[i].From, r.Edges[i].To = r.Edges[i].To, r.Edges[i].From
	}
	turned := loaded(t, r)
	for of := -1; of <= last; of++ {
		wantBothWays(t, g, of)
		want(t, "turned round", answers(built(t, turned, of, true), 6), answers(built(t, g, of, false), 6))
		want(t, "turned round, back", answers(built(t, turned, of, false), 6), answers(built(t, g, of, true), 6))
	}
}

// P6.1: what an index tells does not hang on the order in which the records were handed in.
func TestEveryOrder(t *testing.T) {
	must := answers(built(t, loaded(t, graph()), -1, false), 6)
	r := graph()
	for i := range r.Edges {
		slices.Reverse(r.Edges[i:])
		slices.Reverse(r.Nodes[i/2:])
		want(t, "in another order", answers(built(t, loaded(t, r), -1, false), 6), must)
	}
}
