package csr_test

import (
	"testing"

	"portolan/api"
)

// spoilAll overwrites all that an index hands out.
func spoilAll(x asked, count int) {
	for node := range count {
		spoil(x.Of(node), api.Adj{Node: 999, Edge: 998})
		spoil(x.Nodes(node), 999)
		for other := range count {
			spoil(x.Between(node, other), 999)
		}
	}
}

// P3: what is handed out is the caller's own, with its spare room: an index stays as it is.
func TestHandedOutSpoilt(t *testing.T) {
	g := loaded(t, graph())
	for of := -1; of <= last; of++ {
		for _, back := range []bool{false, true} {
			x := built(t, g, of, back)
			was := answers(x, 6)
			for range 2 {
				spoilAll(x, 6)
				want(t, "what was handed out, spoilt", answers(x, 6), was)
			}
			want(t, "built again", answers(built(t, g, of, back), 6), was)
		}
	}
}

// P3: no two lists that come out share memory.
func TestListsApart(t *testing.T) {
	x := built(t, loaded(t, graph()), -1, false)
	var all []room
	for range 2 {
		for node := range 6 {
			all = taken(x.Of(node), taken(x.Nodes(node), all))
			for other := range 6 {
				all = taken(x.Between(node, other), all)
			}
		}
	}
	want(t, "there are such lists", len(all) >= 24, true)
	wantApart(t, all)
}

// P3: what was told stays as it is, whatever is asked afterwards.
func TestToldStays(t *testing.T) {
	x := built(t, loaded(t, graph()), ofE, false)
	of, nodes, between := x.Of(1), x.Nodes(1), x.Between(1, 4)
	spoilAll(x, 6)
	wantList(t, "Of(1)", of, adjs(0, 6, 1, 3, 1, 7, 4, 2, 4, 5)...)
	wantList(t, "Nodes(1)", nodes, 0, 1, 4)
	wantList(t, "Between(1, 4)", between, 2, 5)
}

// P3: a graph stays as it is when indexes are built and asked, and an index does not hang on others of that graph.
func TestGraphStands(t *testing.T) {
	r := graph()
	g, untouched := loaded(t, r), loaded(t, graph())
	x := built(t, g, ofE, true)
	was := answers(x, 6)
	for of := -1; of <= last; of++ {
		spoilAll(built(t, g, of, false), 6)
		spoilAll(built(t, g, of, true), 6)
	}
	want(t, "the one that was built first", answers(x, 6), was)
	for i := range untouched.Edges() {
		from, to := g.Ends(i)
		wasFrom, wasTo := untouched.Ends(i)
		want(t, "Ends", [3]int{from, to, g.EdgeType(i)}, [3]int{wasFrom, wasTo, untouched.EdgeType(i)})
	}
	want(t, "Nodes", g.Nodes(), untouched.Nodes())
	for i := range r.Edges {
		r.Edges[i] = edge(999, "F", 0, 0)
	}
	for i := range r.Nodes {
		r.Nodes[i].ID = 999
	}
	want(t, "what the graph was loaded of, spoilt", answers(x, 6), was)
	want(t, "and built behind that", answers(built(t, g, ofE, true), 6), was)
}
