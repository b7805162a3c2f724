package tables_test

import (
	"fmt"
	"math"
	"slices"
	"testing"

	"portolan/api"
	"portolan/rawgraph"
	"portolan/tables"
)

// want holds an answer against what it must be.
func want[T comparable](t *testing.T, what string, got, must T) {
	t.Helper()
	if got != must {
		t.Errorf("%s: %v, want %v", what, got, must)
	}
}

func wantPlaces(t *testing.T, what string, got []int, must ...int) {
	t.Helper()
	if !slices.Equal(got, must) {
		t.Errorf("%s: %v, want %v", what, got, must)
	}
}

func wantValue(t *testing.T, what string, got, must api.Value) {
	t.Helper()
	want(t, what, toldValue(got), toldValue(must))
}

func wantEnds(t *testing.T, g *tables.Graph, i, from, to int) {
	t.Helper()
	a, b := g.Ends(i)
	want(t, fmt.Sprintf("Ends(%d)", i), [2]int{a, b}, [2]int{from, to})
}

// The examples of the chapter.
func TestExamples(t *testing.T) {
	g := loaded(t, api.Raw{
		NodeTypes: []api.TypeDecl{decl("A", "x:i")},
		EdgeTypes: []api.TypeDecl{decl("E")},
		Nodes:     []api.RawNode{{ID: 7, Label: "A", Props: with("x", integer(1))}, {ID: 3, Label: "A"}},
		Edges:     []api.RawEdge{{ID: 5, Label: "E", From: 7, To: 3}},
	})
	want(t, "Nodes", g.Nodes(), 2)
	want(t, "NodeID(0)", g.NodeID(0), 3)
	want(t, "NodeAt(7)", g.NodeAt(7), 1)
	wantEnds(t, g, 0, 1, 0)
	wantValue(t, "NodeProp(1, x)", g.NodeProp(1, "x"), integer(1))
	wantValue(t, "NodeProp(0, x)", g.NodeProp(0, "x"), null())
	wantValue(t, "NodeProp(1, y)", g.NodeProp(1, "y"), null())
	wantPlaces(t, "OfType(-1)", g.OfType(-1), 0, 1)
	wantPlaces(t, "OfType(0)", g.OfType(0), 0, 1)
	wantPlaces(t, "OfType(5)", g.OfType(5))
}

// P5.1, T1: a graph of nothing is one, to which nothing is an answer.
func TestNothing(t *testing.T) {
	g := loaded(t, api.Raw{})
	want(t, "Nodes", g.Nodes(), 0)
	want(t, "Edges", g.Edges(), 0)
	want(t, "NodeTypes", len(g.NodeTypes()), 0)
	want(t, "EdgeTypes", len(g.EdgeTypes()), 0)
	want(t, "Raw", toldRaw(g.Raw()), toldRaw(api.Raw{}))
	for _, i := range append(outside(), 0, 1) {
		wantNoPlace(t, g, i)
		want(t, "NodeAt", g.NodeAt(int64(i)), -1)
		want(t, "EdgeAt", g.EdgeAt(int64(i)), -1)
		wantPlaces(t, "OfType", g.OfType(i))
	}
}

// wantNoPlace: neither a node nor an edge stands there.
func wantNoPlace(t *testing.T, g *tables.Graph, i int) {
	t.Helper()
	wantNoNode(t, g, i)
	wantNoEdge(t, g, i)
}

func wantNoNode(t *testing.T, g *tables.Graph, i int) {
	t.Helper()
	want(t, fmt.Sprintf("NodeID(%d)", i), g.NodeID(i), -1)
	want(t, fmt.Sprintf("NodeType(%d)", i), g.NodeType(i), -1)
	for _, name := range names() {
		wantValue(t, fmt.Sprintf("NodeProp(%d, %q)", i, name), g.NodeProp(i, name), null())
	}
}

func wantNoEdge(t *testing.T, g *tables.Graph, i int) {
	t.Helper()
	want(t, fmt.Sprintf("EdgeID(%d)", i), g.EdgeID(i), -1)
	want(t, fmt.Sprintf("EdgeType(%d)", i), g.EdgeType(i), -1)
	wantEnds(t, g, i, -1, -1)
	for _, name := range names() {
		wantValue(t, fmt.Sprintf("EdgeProp(%d, %q)", i, name), g.EdgeProp(i, name), null())
	}
}

// P5.1, T1: of a graph that is refused there is nil, the place and the error, as rawgraph.Check has them.
func TestRefused(t *testing.T) {
	for _, c := range []struct {
		e    api.Errno
		part api.Part
		at   int
		do   func(r *api.Raw)
	}{
		{api.ErrRawName, api.PartNodeTypes, 1, func(r *api.Raw) { r.NodeTypes[1].Label = "1" }},
		{api.ErrRawTwice, api.PartNodeTypes, 3, func(r *api.Raw) { r.NodeTypes[3].Label = "Town" }},
		{api.ErrTooMany, api.PartNodeTypes, 2, func(r *api.Raw) { r.NodeTypes[2].Props = manyProps(33) }},
		{api.ErrTooMany, api.PartNodeTypes, 64, func(r *api.Raw) { r.NodeTypes = append(r.NodeTypes, manyTypes(61)...) }},
		{api.ErrRawProp, api.PartEdgeTypes, 0, func(r *api.Raw) { r.EdgeTypes[0].Props[0].Kind = api.Path }},
		{api.ErrTooMany, api.PartEdgeTypes, 64, func(r *api.Raw) { r.EdgeTypes = append(r.EdgeTypes, manyTypes(61)...) }},
		{api.ErrRawID, api.PartNodes, 2, func(r *api.Raw) { r.Nodes[2].ID = -1 }},
		{api.ErrRawID, api.PartNodes, 1, func(r *api.Raw) { r.Nodes[1].ID++ }},
		{api.ErrRawTwice, api.PartNodes, 5, func(r *api.Raw) { r.Nodes[5].ID = 7 }},
		{api.ErrRawLabel, api.PartNodes, 0, func(r *api.Raw) { r.Nodes[0].Label = "Way" }},
		{api.ErrRawValue, api.PartNodes, 4, func(r *api.Raw) { r.Nodes[4].Props[0].Value = text("none") }},
		{api.ErrRawValue, api.PartNodes, 1, func(r *api.Raw) { r.Nodes[1].Props = with("name", null()) }},
		{api.ErrRawID, api.PartEdges, 5, func(r *api.Raw) { r.Edges[5].ID = -1 }},
		{api.ErrRawTwice, api.PartEdges, 3, func(r *api.Raw) { r.Edges[3].ID = 9 }},
		{api.ErrRawLabel, api.PartEdges, 1, func(r *api.Raw) { r.Edges[1].Label = "Town" }},
		{api.ErrRawEnd, api.PartEdges, 0, func(r *api.Raw) { r.Edges[0].From = 9 }},
		{api.ErrRawEnd, api.PartEdges, 4, func(r *api.Raw) { r.Edges[4].To = -1 }},
		{api.ErrRawValue, api.PartEdges, 1, func(r *api.Raw) { r.Edges[1].Props = with("x", truth(true), "x", null()) }},
		{api.ErrRawEnd, api.PartEdges, 0, func(r *api.Raw) { r.Nodes = nil }},
		{api.ErrRawLabel, api.PartNodes, 0, func(r *api.Raw) { r.NodeTypes = nil }},
		{api.ErrRawLabel, api.PartEdges, 0, func(r *api.Raw) { r.EdgeTypes = nil }},
	} {
		r := graph()
		c.do(&r)
		at, e := rawgraph.Check(r)
		want(t, "Check's place", at, api.Place{Part: c.part, At: c.at})
		want(t, "Check's error", e, c.e)
		g, at, e := tables.Load(r)
		if g != nil || at != (api.Place{Part: c.part, At: c.at}) || e != c.e {
			t.Errorf("Load: %v, %v, %v, want nil, {%v %v}, %v", g, at, e, c.part, c.at, c.e)
		}
	}
}

func manyTypes(n int) []api.TypeDecl {
	var l []api.TypeDecl
	for i := range n {
		l = append(l, decl(fmt.Sprint("T", i)))
	}
	return l
}

func manyProps(n int) []api.PropDecl {
	var l []api.PropDecl
	for i := range n {
		l = append(l, api.PropDecl{Name: fmt.Sprint("p", i), Kind: []api.Kind{api.Bool, api.Int, api.Text}[i%3]})
	}
	return l
}

// P5.1, T2: how many there are, and the catalog as it was handed in.
func TestCatalog(t *testing.T) {
	g := loaded(t, graph())
	want(t, "Nodes", g.Nodes(), 6)
	want(t, "Edges", g.Edges(), 6)
	r := graph()
	want(t, "NodeTypes", toldRaw(api.Raw{NodeTypes: g.NodeTypes()}), toldRaw(api.Raw{NodeTypes: r.NodeTypes}))
	want(t, "EdgeTypes", toldRaw(api.Raw{EdgeTypes: g.EdgeTypes()}), toldRaw(api.Raw{EdgeTypes: r.EdgeTypes}))
	r.Edges = r.Edges[:2]
	g = loaded(t, r)
	want(t, "Nodes, fewer edges", g.Nodes(), 6)
	want(t, "Edges, fewer edges", g.Edges(), 2)
}

// P5.1: types alone, as many as may be, with as many properties.
func TestTypesAlone(t *testing.T) {
	r := api.Raw{NodeTypes: manyTypes(64), EdgeTypes: append(manyTypes(63), decl("Z", "b:b", "a:t"))}
	slices.Reverse(r.NodeTypes)
	r.NodeTypes[0].Props = manyProps(32)
	g := loaded(t, r)
	want(t, "Raw", toldRaw(g.Raw()), toldRaw(r))
	want(t, "NodeTypes", toldRaw(api.Raw{NodeTypes: g.NodeTypes()}), toldRaw(api.Raw{NodeTypes: r.NodeTypes}))
	want(t, "EdgeTypes", toldRaw(api.Raw{EdgeTypes: g.EdgeTypes()}), toldRaw(api.Raw{EdgeTypes: r.EdgeTypes}))
	for i := range 65 {
		wantNoPlace(t, g, i)
		wantPlaces(t, "OfType", g.OfType(i))
	}
	wantPlaces(t, "OfType", g.OfType(-1))
}

// P5.1, T2: IDs, places and types of all records.
func TestRecords(t *testing.T) {
	g := loaded(t, graph())
	nodes, edges := []int64{0, 3, 4, 5, 7, api.MaxID}, []int64{0, 3, 4, 8, 9, api.MaxID}
	for i, of := range []int{0, 3, 0, 2, 0, 2} {
		want(t, fmt.Sprintf("NodeID(%d)", i), g.NodeID(i), nodes[i])
		want(t, fmt.Sprintf("NodeAt(%d)", nodes[i]), g.NodeAt(nodes[i]), i)
		want(t, fmt.Sprintf("NodeType(%d)", i), g.NodeType(i), of)
	}
	for i, of := range []int{1, 0, 0, 1, 1, 3} {
		want(t, fmt.Sprintf("EdgeID(%d)", i), g.EdgeID(i), edges[i])
		want(t, fmt.Sprintf("EdgeAt(%d)", edges[i]), g.EdgeAt(edges[i]), i)
		want(t, fmt.Sprintf("EdgeType(%d)", i), g.EdgeType(i), of)
	}
}

// P5.1, T2: loops, two edges between the same nodes, one the other way round, ends at the first and the last node.
func TestEnds(t *testing.T) {
	g := loaded(t, graph())
	for i, must := range [][2]int{{4, 0}, {1, 1}, {1, 1}, {0, 4}, {4, 0}, {5, 2}} {
		wantEnds(t, g, i, must[0], must[1])
	}
}

// P5.1, T2 and T3: places below 0, at the end and beyond.
func TestNoSuchPlace(t *testing.T) {
	g := loaded(t, graph())
	for _, i := range append(outside(), 6, 7, 64) {
		wantNoPlace(t, g, i)
	}
	r := graph()
	r.Edges = r.Edges[:1]
	g = loaded(t, r)
	for i := 1; i < 7; i++ {
		wantNoEdge(t, g, i)
	}
	r.Nodes, r.Edges = []api.RawNode{{ID: 1, Label: "Town", Props: with("name", text("a"))}}, nil
	for id := range int64(4) {
		r.Edges = append(r.Edges, api.RawEdge{ID: id, Label: "Way", From: 1, To: 1, Props: with("name", text("b"))})
	}
	g = loaded(t, r)
	for i := 1; i < 5; i++ {
		wantNoNode(t, g, i)
	}
	wantNoEdge(t, g, 4)
}

// P5.1, T2: IDs that are not there, below 0, above MaxID.
func TestNoSuchID(t *testing.T) {
	g := loaded(t, graph())
	for _, id := range []int64{math.MinInt64, -api.MaxID, -1, 1, 2, 6, 10, api.MaxID - 1, api.MaxID + 1, 1 << 41, math.MaxInt64} {
		want(t, fmt.Sprintf("NodeAt(%d)", id), g.NodeAt(id), -1)
		want(t, fmt.Sprintf("EdgeAt(%d)", id), g.EdgeAt(id), -1)
	}
	want(t, "NodeAt of an edge's ID", g.NodeAt(8), -1)
	want(t, "NodeAt of an edge's ID", g.NodeAt(9), -1)
	want(t, "EdgeAt of a node's ID", g.EdgeAt(5), -1)
	want(t, "EdgeAt of a node's ID", g.EdgeAt(7), -1)
}

// P5.1, T2: a node's and an edge's ID that are the same stand for two records.
func TestSameIDs(t *testing.T) {
	g := loaded(t, api.Raw{
		NodeTypes: []api.TypeDecl{decl("A", "x:i"), decl("B", "x:i")},
		EdgeTypes: []api.TypeDecl{decl("B", "x:i")},
		Nodes:     []api.RawNode{{ID: 6, Label: "B", Props: with("x", integer(1))}, {ID: 5, Label: "A"}},
		Edges:     []api.RawEdge{{ID: 6, Label: "B", From: 5, To: 6, Props: with("x", integer(2))}},
	})
	want(t, "NodeAt(6)", g.NodeAt(6), 1)
	want(t, "EdgeAt(6)", g.EdgeAt(6), 0)
	want(t, "EdgeAt(5)", g.EdgeAt(5), -1)
	want(t, "NodeType(1)", g.NodeType(1), 1)
	want(t, "EdgeType(0)", g.EdgeType(0), 0)
	wantEnds(t, g, 0, 0, 1)
	wantValue(t, "NodeProp(1, x)", g.NodeProp(1, "x"), integer(1))
	wantValue(t, "EdgeProp(0, x)", g.EdgeProp(0, "x"), integer(2))
}

// P5.1, T3: each property of each record; all others are null: what is not declared, what another type declares, what the record did not have, what was null.
func TestProps(t *testing.T) {
	g := loaded(t, graph())
	nodes := []map[string]api.Value{
		{"name": text(""), "port": truth(false)},
		{"folk": text("few"), "x": integer(-5)},
		{"folk": integer(0)},
		nil,
		{"name": text("Porto"), "port": truth(true)},
		nil,
	}
	edges := []map[string]api.Value{
		nil,
		{"x": truth(true)},
		nil,
		{"miles": integer(math.MinInt64), "by": text("it's")},
		{"miles": integer(math.MaxInt64), "name": text("IC1")},
		nil,
	}
	for i := range 6 {
		for _, name := range names() {
			wantValue(t, fmt.Sprintf("NodeProp(%d, %q)", i, name), g.NodeProp(i, name), nodes[i][name])
			wantValue(t, fmt.Sprintf("EdgeProp(%d, %q)", i, name), g.EdgeProp(i, name), edges[i][name])
		}
	}
}

// P5.1, T3: as many properties as may be, the greatest values, of records of which each lacks others.
func TestManyProps(t *testing.T) {
	long := text(string(slices.Repeat([]byte{'a'}, api.MaxText)))
	d := api.TypeDecl{Label: "T", Props: manyProps(32)}
	r := api.Raw{NodeTypes: []api.TypeDecl{d}, EdgeTypes: []api.TypeDecl{d}}
	of := func(record, k int) api.Value {
		if (record*7+k)%5 == 0 {
			return null()
		}
		return []api.Value{truth((record+k)%2 == 0), integer(int64(record)<<32 + int64(k)), text(fmt.Sprint(record%3, " ", k)), truth(true), integer(math.MinInt64), long}[k%6]
	}
	for id := range 40 {
		var l []api.PropValue
		for k := range 32 {
			at := (k*11 + id) % 32
			l = append(l, with(d.Props[at].Name, of(id, at))...)
		}
		r.Nodes = append(r.Nodes, api.RawNode{ID: int64(id), Label: "T", Props: l})
		r.Edges = append(r.Edges, api.RawEdge{ID: int64(id), Label: "T", Props: slices.DeleteFunc(slices.Clone(l), func(p api.PropValue) bool { return p.Value.Kind == api.Null })})
	}
	g := loaded(t, r)
	for i := range 40 {
		for k, p := range d.Props {
			wantValue(t, "NodeProp", g.NodeProp(i, p.Name), of(i, k))
			wantValue(t, "EdgeProp", g.EdgeProp(i, p.Name), of(i, k))
		}
	}
}

// P5.1, T4: types below -1, -1, each, one without nodes, beyond the last one.
func TestOfType(t *testing.T) {
	g := loaded(t, graph())
	wantPlaces(t, "OfType(-1)", g.OfType(-1), 0, 1, 2, 3, 4, 5)
	wantPlaces(t, "OfType(0)", g.OfType(0), 0, 2, 4)
	wantPlaces(t, "OfType(1)", g.OfType(1))
	wantPlaces(t, "OfType(2)", g.OfType(2), 3, 5)
	wantPlaces(t, "OfType(3)", g.OfType(3), 1)
	for _, of := range []int{math.MinInt, -64, -3, -2, 4, 5, 63, 64, 1 << 32, math.MaxInt} {
		wantPlaces(t, fmt.Sprintf("OfType(%d)", of), g.OfType(of))
	}
	r := graph()
	r.NodeTypes = append(r.NodeTypes, decl("Last"))
	wantPlaces(t, "OfType(4), a type without nodes", loaded(t, r).OfType(4))
	r.Nodes = append(r.Nodes, api.RawNode{ID: 1, Label: "Last"})
	wantPlaces(t, "OfType(4), one node", loaded(t, r).OfType(4), 1)
}

// P5.1, T4: Raw is rawgraph.Sorted of what was loaded.
func TestRaw(t *testing.T) {
	g := loaded(t, graph())
	want(t, "Raw", toldRaw(g.Raw()), toldRaw(graphInOrder()))
	sorted, _ := rawgraph.Sorted(graph())
	want(t, "Raw and Sorted", toldRaw(g.Raw()), toldRaw(sorted))
}

// P5.2: Load of Raw is the same graph, and so on.
func TestLoadOfRaw(t *testing.T) {
	for _, r := range []api.Raw{{}, graph(), graphInOrder(), {NodeTypes: graph().NodeTypes, EdgeTypes: graph().EdgeTypes}, {NodeTypes: graph().NodeTypes, Nodes: graph().Nodes}} {
		g := loaded(t, r)
		once := loaded(t, g.Raw())
		wantAnswers(t, "Load of Raw", answers(once), answers(g))
		wantAnswers(t, "Load of Raw of that", answers(loaded(t, once.Raw())), answers(g))
	}
}

// orders hands on a list in every order, by exchanges in its own memory.
func orders[T any](l []T, do func()) {
	if len(l) < 2 {
		do()
		return
	}
	for i := range l {
		l[0], l[i] = l[i], l[0]
		orders(l[1:], do)
		l[0], l[i] = l[i], l[0]
	}
}

// P5.2: a graph does not hang on the order of its records, nor on that of their properties.
func TestEveryOrder(t *testing.T) {
	r := graph()
	must := answers(loaded(t, graph()))
	orders(r.Nodes, func() { wantAnswers(t, "nodes in another order", answers(loaded(t, r)), must) })
	orders(r.Edges, func() { wantAnswers(t, "edges in another order", answers(loaded(t, r)), must) })
	for _, n := range r.Nodes {
		orders(n.Props, func() { wantAnswers(t, "a node's properties in another order", answers(loaded(t, r)), must) })
	}
	for _, d := range r.Edges {
		orders(d.Props, func() { wantAnswers(t, "an edge's properties in another order", answers(loaded(t, r)), must) })
	}
	slices.Reverse(r.Nodes)
	slices.Reverse(r.Edges)
	wantAnswers(t, "all turned round", answers(loaded(t, r)), must)
	wantAnswers(t, "in order", answers(loaded(t, graphInOrder())), must)
}
