package csr_test

import (
	"fmt"
	"math/rand"
	"slices"
	"testing"

	"portolan/api"
	"portolan/tables"
)

// plain is an index that looks at all edges whenever it is asked.
type plain struct {
	raw  api.Raw
	of   int
	back bool
}

// place is how many records have IDs below one.
func place[R any](l []R, id func(R) int64, mine int64) int {
	below := 0
	for _, x := range l {
		if id(x) < mine {
			below++
		}
	}
	return below
}

func (p plain) node(id int64) int {
	return place(p.raw.Nodes, func(n api.RawNode) int64 { return n.ID }, id)
}

func (p plain) edge(id int64) int {
	return place(p.raw.Edges, func(d api.RawEdge) int64 { return d.ID }, id)
}

func (p plain) Of(node int) []api.Adj {
	var l []api.Adj
	for other := range p.raw.Nodes {
		for _, i := range p.Between(node, other) {
			l = append(l, api.Adj{Node: other, Edge: i})
		}
	}
	return l
}

func (p plain) Between(node int, other int) []int {
	if p.back {
		node, other = other, node
	}
	var l []int
	for _, d := range p.raw.Edges {
		if (p.of == -1 || d.Label == p.raw.EdgeTypes[p.of].Label) && p.node(d.From) == node && p.node(d.To) == other {
			l = append(l, p.edge(d.ID))
		}
	}
	slices.Sort(l)
	return l
}

func (p plain) Nodes(node int) []int {
	var l []int
	for other := range p.raw.Nodes {
		if len(p.Between(node, other)) > 0 {
			l = append(l, other)
		}
	}
	return l
}

func (p plain) Degree(node int) int { return len(p.Of(node)) }

func (p plain) Total() int {
	sum := 0
	for node := range p.raw.Nodes {
		sum += p.Degree(node)
	}
	return sum
}

// drawn is a graph that may be, with so few nodes that loops and several edges between the same two are many.
func drawn(r *rand.Rand) api.Raw {
	g := api.Raw{NodeTypes: named("A"), EdgeTypes: named("E F G H")[:1+r.Intn(4)]}
	for _, id := range r.Perm(12)[:r.Intn(8)] {
		g.Nodes = append(g.Nodes, nodes(int64(id))...)
	}
	for _, id := range r.Perm(40)[:r.Intn(25)] {
		if len(g.Nodes) == 0 {
			break
		}
		from, to := g.Nodes[r.Intn(len(g.Nodes))].ID, g.Nodes[r.Intn(len(g.Nodes))].ID
		g.Edges = append(g.Edges, edge(int64(id), g.EdgeTypes[r.Intn(len(g.EdgeTypes))].Label, from, to))
	}
	return g
}

// P6.1, P6.2: drawn graphs, held against plain ones, for each type and both ways.
func TestAgainstPlainOnes(t *testing.T) {
	r := rand.New(rand.NewSource(7))
	for range 60 {
		raw := drawn(r)
		g := loaded(t, raw)
		for of := -1; of < len(raw.EdgeTypes); of++ {
			for _, back := range []bool{false, true} {
				got := answers(built(t, g, of, back), len(raw.Nodes))
				if must := answers(plain{raw, of, back}, len(raw.Nodes)); got != must {
					t.Fatalf("%v, type %d, back %t:\n%s\nwant\n%s", raw, of, back, got, must)
				}
			}
			wantBothWays(t, g, of)
		}
		wantNoIndex(t, g, len(raw.EdgeTypes), api.ErrCsrType)
	}
}

// P6.1: many edges; of one node to all others and back, and several between the same two.
func TestManyEdges(t *testing.T) {
	const count, same = 30000, 3
	raw := api.Raw{NodeTypes: named("A"), EdgeTypes: named("E F")}
	for id := range int64(count) {
		raw.Nodes = append(raw.Nodes, nodes(id)...)
		for k := range int64(same) {
			raw.Edges = append(raw.Edges, edge(k*count+id, "E", 7, id*7919%count))
		}
		raw.Edges = append(raw.Edges, edge(same*count+id, "F", id, 7))
	}
	g := loaded(t, raw)
	wantStar(t, g, count, same)
	wantRays(t, g, count, same)
}

// wantStar: the node 7 has each node beside it, several times.
func wantStar(t *testing.T, g *tables.Graph, count, same int) {
	t.Helper()
	x := built(t, g, 0, false)
	want(t, "Total", x.Total(), count*same)
	want(t, "Degree(7)", x.Degree(7), count*same)
	wantList(t, "Nodes(7)", x.Nodes(7), upTo(count)...)
	all := x.Of(7)
	for i := range count {
		other := i * 7919 % count
		must := []int{i, count + i, 2*count + i}
		if got := x.Between(7, other); !slices.Equal(got, must) {
			t.Fatalf("Between(7, %d): %v, want %v", other, got, must)
		}
		for k, edge := range must {
			want(t, fmt.Sprintf("Of(7)[%d]", other*same+k), all[other*same+k], api.Adj{Node: other, Edge: edge})
		}
	}
}

// wantRays: each node has the node 7 beside it, once.
func wantRays(t *testing.T, g *tables.Graph, count, same int) {
	t.Helper()
	x, back := built(t, g, 1, false), built(t, g, 1, true)
	want(t, "Total", x.Total(), count)
	want(t, "back: Degree(7)", back.Degree(7), count)
	for i, a := range back.Of(7) {
		want(t, "back: Of(7)", a, api.Adj{Node: i, Edge: same*count + i})
		wantList(t, "Of", x.Of(i), api.Adj{Node: 7, Edge: same*count + i})
	}
}
