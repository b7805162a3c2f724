package rawgraph_test

import (
	"fmt"
	"math"
	"strings"
	"testing"

	"portolan/api"
)

// change is something done to graph().
type change func(r *api.Raw)

func changed(l ...change) api.Raw {
	r := graph()
	for _, do := range l {
		do(&r)
	}
	return r
}

// types are so many, each of a name of its own.
func types(count int) []api.TypeDecl {
	var l []api.TypeDecl
	for i := range count {
		l = append(l, declared(fmt.Sprint("T", i)))
	}
	return l
}

// propDecls are so many, each of a name of its own.
func propDecls(count int) []api.PropDecl {
	var l []api.PropDecl
	for i := range count {
		l = append(l, api.PropDecl{Name: fmt.Sprint("p", i), Kind: api.Kind(1 + i%3)})
	}
	return l
}

// P4.1: the chapter's examples of G2.
func TestCheckExamples(t *testing.T) {
	wantGraph(t, "nothing", wantRight(t, "nothing", api.Raw{}), api.Raw{})
	a := []api.TypeDecl{declared("A")}
	e := []api.TypeDecl{declared("E")}
	wantRefused(t, "A, A", api.Raw{NodeTypes: []api.TypeDecl{declared("A"), declared("A")}}, api.PartNodeTypes, 1, api.ErrRawTwice)
	x := []api.TypeDecl{declared("A", api.PropDecl{Name: "x", Kind: api.Int})}
	nodes := []api.RawNode{{ID: 1, Label: "A", Props: props(prop("x", text("a")))}}
	wantRefused(t, "x = 'a'", api.Raw{NodeTypes: x, Nodes: nodes}, api.PartNodes, 0, api.ErrRawValue)
	one := api.Raw{NodeTypes: a, EdgeTypes: e, Nodes: []api.RawNode{{ID: 1, Label: "A"}}, Edges: []api.RawEdge{{ID: 5, Label: "E", From: 1, To: 2}}}
	wantRefused(t, "from 1 to 2", one, api.PartEdges, 0, api.ErrRawEnd)
}

// P4.1: a graph of every part that may be.
func TestCheckOfGraphsThatMayBe(t *testing.T) {
	wantRight(t, "graph", graph())
	wantRight(t, "empty lists", api.Raw{NodeTypes: []api.TypeDecl{}, EdgeTypes: []api.TypeDecl{}, Nodes: []api.RawNode{}, Edges: []api.RawEdge{}})
	wantRight(t, "types alone", api.Raw{NodeTypes: graph().NodeTypes, EdgeTypes: graph().EdgeTypes})
	wantRight(t, "no edges", api.Raw{NodeTypes: graph().NodeTypes, Nodes: graph().Nodes})
	wantRight(t, "a null text", changed(func(r *api.Raw) { r.Nodes[0].Props[1].Value = null() }))
	for _, n := range []int64{0, 1, -1, math.MaxInt64, math.MinInt64} {
		wantRight(t, "numbers", changed(func(r *api.Raw) { r.Nodes[4].Props[0].Value = integer(n) }))
	}
	for _, s := range []string{"", "a", "no name", "1", "×", "\n\x00", strings.Repeat("x", api.MaxText)} {
		wantRight(t, "texts", changed(func(r *api.Raw) { r.Nodes[0].Props[1].Value = text(s) }))
	}
}

// P4.1: labels of types, in both parts.
func TestCheckLabelsOfTypes(t *testing.T) {
	long := strings.Repeat("x", api.MaxName)
	for _, s := range []string{"", "1", "a b", "×", long + "x", "\xff", "a\xc3", "-", "Town "} {
		wantRefused(t, s, changed(func(r *api.Raw) { r.NodeTypes[1].Label = s }), api.PartNodeTypes, 1, api.ErrRawName)
		wantRefused(t, s, changed(func(r *api.Raw) { r.EdgeTypes[0].Label = s }), api.PartEdgeTypes, 0, api.ErrRawName)
	}
	for _, s := range []string{"_", "town", "É", long, "name", "x", "folk"} {
		more := declared(s)
		wantRight(t, s, changed(func(r *api.Raw) { r.NodeTypes = append(r.NodeTypes, more) }))
		wantRight(t, s, changed(func(r *api.Raw) { r.EdgeTypes = append(r.EdgeTypes, more) }))
	}
	for at := range 3 {
		again := declared(graph().NodeTypes[at].Label)
		wantRefused(t, "twice", changed(func(r *api.Raw) { r.NodeTypes = append(r.NodeTypes, again) }), api.PartNodeTypes, 3, api.ErrRawTwice)
	}
	for at := range 2 {
		again := declared(graph().EdgeTypes[at].Label)
		wantRefused(t, "twice", changed(func(r *api.Raw) { r.EdgeTypes = append(r.EdgeTypes, again) }), api.PartEdgeTypes, 2, api.ErrRawTwice)
	}
	wantRight(t, "in both parts", changed(
		func(r *api.Raw) { r.EdgeTypes = append(r.EdgeTypes, declared("Town"), declared("Isle")) },
		func(r *api.Raw) { r.NodeTypes = append(r.NodeTypes, declared("Way")) },
	))
}

// P4.1: the place MaxTypes and those behind it.
func TestCheckManyTypes(t *testing.T) {
	for _, count := range []int{api.MaxTypes - 1, api.MaxTypes} {
		wantRight(t, "as many as may be", api.Raw{NodeTypes: types(count), EdgeTypes: types(count)})
	}
	for _, count := range []int{api.MaxTypes + 1, api.MaxTypes + 2, 3 * api.MaxTypes} {
		wantRefused(t, "one more", api.Raw{NodeTypes: types(count)}, api.PartNodeTypes, api.MaxTypes, api.ErrTooMany)
		wantRefused(t, "one more", api.Raw{NodeTypes: types(64), EdgeTypes: types(count)}, api.PartEdgeTypes, api.MaxTypes, api.ErrTooMany)
	}
	for _, d := range []api.TypeDecl{declared("1"), declared("T0"), declared("T", propDecls(33)...), declared("T", api.PropDecl{})} {
		l := types(65)
		l[64] = d
		wantRefused(t, "wrong in another way", api.Raw{NodeTypes: l}, api.PartNodeTypes, 64, api.ErrTooMany)
		wantRefused(t, "wrong in another way", api.Raw{EdgeTypes: l}, api.PartEdgeTypes, 64, api.ErrTooMany)
	}
	last := types(65)
	last[63] = declared("T62")
	wantRefused(t, "the last that may be", api.Raw{NodeTypes: last}, api.PartNodeTypes, 63, api.ErrRawTwice)
	last[63] = declared("T63", propDecls(33)...)
	wantRefused(t, "the last that may be", api.Raw{EdgeTypes: last}, api.PartEdgeTypes, 63, api.ErrTooMany)
	last[63] = declared("×")
	wantRefused(t, "the last that may be", api.Raw{EdgeTypes: last}, api.PartEdgeTypes, 63, api.ErrRawName)
}

// P4.1: MaxProps properties and one more; a record may have them all.
func TestCheckManyProps(t *testing.T) {
	full := declared("Full", propDecls(api.MaxProps)...)
	var all []api.PropValue
	for _, p := range full.Props {
		all = append(all, prop(p.Name, api.Value{Kind: p.Kind}))
	}
	r := changed(
		func(r *api.Raw) { r.NodeTypes, r.EdgeTypes = append(r.NodeTypes, full), append(r.EdgeTypes, full) },
		func(r *api.Raw) { r.Nodes = append(r.Nodes, api.RawNode{ID: 5, Label: "Full", Props: all}) },
		func(r *api.Raw) {
			r.Edges = append(r.Edges, api.RawEdge{ID: 5, Label: "Full", From: 5, To: 5, Props: all})
		},
	)
	wantRight(t, "all of 32", r)
	for at := range all {
		twice := append(props(all[at]), all...)
		r.Nodes[5].Props = twice
		wantRefused(t, "one of 32 twice", r, api.PartNodes, 5, api.ErrRawValue)
		r.Nodes[5].Props = all
		r.Edges[5].Props = twice
		wantRefused(t, "one of 32 twice", r, api.PartEdges, 5, api.ErrRawValue)
		r.Edges[5].Props = all
	}
	for _, count := range []int{33, 34, 200} {
		more := propDecls(count)
		wantRefused(t, "33", changed(func(r *api.Raw) { r.NodeTypes[1].Props = more }), api.PartNodeTypes, 1, api.ErrTooMany)
		wantRefused(t, "33", changed(func(r *api.Raw) { r.EdgeTypes[1].Props = more }), api.PartEdgeTypes, 1, api.ErrTooMany)
	}
}

// wrongDecls are lists of properties that may not be declared.
func wrongDecls() [][]api.PropDecl {
	var l [][]api.PropDecl
	for _, k := range []api.Kind{math.MinInt, -255, -1, api.Null, api.NodeID, api.EdgeID, api.Path, api.Fault, 8, 256 + api.Int, 1<<32 + api.Int, math.MaxInt} {
		l = append(l, []api.PropDecl{{Name: "a", Kind: k}}, []api.PropDecl{{Name: "a", Kind: api.Int}, {Name: "b", Kind: k}, {Name: "c", Kind: api.Int}})
	}
	for _, s := range []string{"", "1", "a b", "×", strings.Repeat("x", api.MaxName+1), "\xff"} {
		l = append(l, []api.PropDecl{{Name: s, Kind: api.Int}}, []api.PropDecl{{Name: "a", Kind: api.Int}, {Name: s, Kind: api.Text}, {Name: "c", Kind: api.Int}})
	}
	for _, k := range []api.Kind{api.Int, api.Bool, api.Text} {
		l = append(l, []api.PropDecl{{Name: "a", Kind: api.Int}, {Name: "a", Kind: k}}, []api.PropDecl{{Name: "a", Kind: k}, {Name: "b", Kind: api.Int}, {Name: "a", Kind: api.Int}})
	}
	last := propDecls(32)
	last[31] = last[30]
	return append(l, last)
}

// P4.1: properties that may not be declared, in both parts.
func TestCheckPropDecls(t *testing.T) {
	for i, l := range wrongDecls() {
		wantRefused(t, fmt.Sprint(i), changed(func(r *api.Raw) { r.NodeTypes[1].Props = l }), api.PartNodeTypes, 1, api.ErrRawProp)
		wantRefused(t, fmt.Sprint(i), changed(func(r *api.Raw) { r.EdgeTypes = append(r.EdgeTypes, declared("More", l...)) }), api.PartEdgeTypes, 2, api.ErrRawProp)
	}
	same := []api.PropDecl{{Name: "name", Kind: api.Bool}, {Name: "Isle", Kind: api.Int}, {Name: "Name", Kind: api.Text}, {Name: "_", Kind: api.Bool}, {Name: strings.Repeat("é", 16), Kind: api.Int}}
	wantRight(t, "names of others", changed(func(r *api.Raw) { r.NodeTypes[1].Props = same }))
}

// P4.1: which of the errors of one type is told, of each choice of them.
func TestCheckErrorsOfOneType(t *testing.T) {
	for i := range 12 {
		d, want := declared("New"), api.OK
		bad, many, label := i%2 == 1, i/2%2 == 1, i/4
		if bad {
			d.Props, want = []api.PropDecl{{Name: "", Kind: 9}}, api.ErrRawProp
		}
		if many {
			d.Props, want = append(d.Props, propDecls(33)...), api.ErrTooMany
		}
		if label == 1 {
			d.Label, want = "Both", api.ErrRawTwice
		}
		if label == 2 {
			d.Label, want = "8", api.ErrRawName
		}
		if want == api.OK {
			continue
		}
		wantRefused(t, fmt.Sprint(i), changed(func(r *api.Raw) { r.NodeTypes = append(r.NodeTypes, d) }), api.PartNodeTypes, 3, want)
		wantRefused(t, fmt.Sprint(i), changed(func(r *api.Raw) { r.EdgeTypes = append(r.EdgeTypes, d) }), api.PartEdgeTypes, 2, want)
	}
}

// P4.1: IDs, of nodes and of edges.
func TestCheckIDs(t *testing.T) {
	for _, id := range []int64{-1, -2, math.MinInt64, api.MaxID + 1, 1 << 41, math.MaxInt64} {
		wantRefused(t, fmt.Sprint(id), changed(func(r *api.Raw) { r.Nodes[1].ID = id }), api.PartNodes, 1, api.ErrRawID)
		wantRefused(t, fmt.Sprint(id), changed(func(r *api.Raw) { r.Edges[1].ID = id }), api.PartEdges, 1, api.ErrRawID)
	}
	for _, id := range []int64{1, 2, 1 << 32, api.MaxID - 1} {
		wantRight(t, fmt.Sprint(id), changed(func(r *api.Raw) { r.Nodes = append(r.Nodes, api.RawNode{ID: id, Label: "Isle"}) }))
		wantRight(t, fmt.Sprint(id), changed(func(r *api.Raw) { r.Edges[1].ID = id }))
	}
	for at := range 5 {
		node, edge := graph().Nodes[at], graph().Edges[at]
		wantRefused(t, "a node again", changed(func(r *api.Raw) { r.Nodes = append(r.Nodes, node) }), api.PartNodes, 5, api.ErrRawTwice)
		wantRefused(t, "an edge again", changed(func(r *api.Raw) { r.Edges = append(r.Edges, edge) }), api.PartEdges, 5, api.ErrRawTwice)
		other := api.RawNode{ID: node.ID, Label: "Isle"}
		wantRefused(t, "another node", changed(func(r *api.Raw) { r.Nodes = append(r.Nodes, other) }), api.PartNodes, 5, api.ErrRawTwice)
		wantRefused(t, "another edge", changed(func(r *api.Raw) { r.Edges = append(r.Edges, api.RawEdge{ID: edge.ID, Label: "Both"}) }), api.PartEdges, 5, api.ErrRawTwice)
	}
}

// P4.1: labels of records: those of the other part's types too.
func TestCheckLabels(t *testing.T) {
	for _, s := range []string{"", "Z", "town", "Town ", "1", "\xff", "Way", "name"} {
		wantRefused(t, s, changed(func(r *api.Raw) { r.Nodes[1].Label = s }), api.PartNodes, 1, api.ErrRawLabel)
	}
	for _, s := range []string{"", "Z", "way", "Isle", "Town", "by"} {
		wantRefused(t, s, changed(func(r *api.Raw) { r.Edges[3].Label = s }), api.PartEdges, 3, api.ErrRawLabel)
	}
	wantRefused(t, "no types of nodes", changed(func(r *api.Raw) { r.NodeTypes = nil }), api.PartNodes, 0, api.ErrRawLabel)
	wantRefused(t, "no types of edges", changed(func(r *api.Raw) { r.EdgeTypes = nil }), api.PartEdges, 0, api.ErrRawLabel)
	wantRight(t, "the last type", api.Raw{NodeTypes: types(64), Nodes: []api.RawNode{{ID: 1, Label: "T63"}, {ID: 2, Label: "T0"}}})
}

// P4.1: both ends of an edge; an edge's ID is no node's.
func TestCheckEnds(t *testing.T) {
	for _, id := range []int64{1, 9, -1, api.MaxID - 1, api.MaxID + 1, math.MinInt64, math.MaxInt64} {
		for at := range 5 {
			wantRefused(t, "from", changed(func(r *api.Raw) { r.Edges[at].From = id }), api.PartEdges, at, api.ErrRawEnd)
			wantRefused(t, "to", changed(func(r *api.Raw) { r.Edges[at].To = id }), api.PartEdges, at, api.ErrRawEnd)
			wantRefused(t, "both", changed(func(r *api.Raw) { r.Edges[at].From, r.Edges[at].To = id, id }), api.PartEdges, at, api.ErrRawEnd)
		}
	}
	for _, from := range graph().Nodes {
		for _, to := range graph().Nodes {
			wantRight(t, "any two nodes", changed(func(r *api.Raw) { r.Edges[0].From, r.Edges[0].To = from.ID, to.ID }))
		}
	}
	wantRefused(t, "no nodes", changed(func(r *api.Raw) { r.Nodes = nil }), api.PartEdges, 0, api.ErrRawEnd)
}

// wrongProps are properties that a record may not have whose type declares a number n, a text s, a truth b.
func wrongProps() [][]api.PropValue {
	n, s, b := prop("n", integer(1)), prop("s", text("a")), prop("b", truth(true))
	l := [][]api.PropValue{
		props(prop("", integer(1))), props(prop("m", integer(1))), props(prop("N", integer(1))), props(n, s, b, prop("m", null())), props(prop("m", null()), n), props(prop("x", integer(1))),
		props(n, n), props(n, prop("n", null())), props(prop("n", null()), n), props(prop("b", null()), prop("b", null())), props(s, n, b, prop("s", text("b"))), props(n, s, b, n),
		props(prop("n", text("a"))), props(prop("n", text("1"))), props(prop("n", truth(true))), props(prop("s", integer(1))), props(prop("s", truth(false))), props(prop("b", integer(1))), props(n, s, prop("b", text("true"))),
		props(prop("s", text(strings.Repeat("x", api.MaxText+1)))), props(prop("s", text("\xff"))), props(n, prop("s", text("a\xc3")), b),
	}
	none := []api.Value{{Kind: api.NodeID, Int: 1}, {Kind: api.EdgeID, Int: 1}, {Kind: api.Path, Path: []int64{1}}, {Kind: api.Path}, {Kind: api.Fault}, {Kind: -1}, {Kind: 8}, {Kind: math.MaxInt}, {Kind: math.MinInt},
		{Bool: true}, {Int: 1}, {Text: "a"}, {Path: []int64{0}}}
	for _, v := range none {
		for _, name := range []string{"n", "s", "b"} {
			l = append(l, props(prop(name, v)))
		}
	}
	littered := []api.PropValue{n, n, n, s, s, s, b, b, b}
	littered[0].Value.Bool, littered[1].Value.Text, littered[2].Value.Path = true, "x", []int64{0}
	littered[3].Value.Bool, littered[4].Value.Int, littered[5].Value.Path = true, 1, []int64{0}
	littered[6].Value.Int, littered[7].Value.Text, littered[8].Value.Path = 1, "x", []int64{0}
	for _, p := range littered {
		l = append(l, props(p))
	}
	return l
}

// withProps is graph, and in each part a type that declares n, s and b, and a record of it.
func withProps(ofNode, ofEdge []api.PropValue) api.Raw {
	r := graph()
	d := declared("Bag", api.PropDecl{Name: "n", Kind: api.Int}, api.PropDecl{Name: "s", Kind: api.Text}, api.PropDecl{Name: "b", Kind: api.Bool})
	r.NodeTypes, r.EdgeTypes = append(r.NodeTypes, d), append(r.EdgeTypes, d)
	r.Nodes = append(r.Nodes, api.RawNode{ID: 5, Label: "Bag", Props: ofNode})
	r.Edges = append(r.Edges, api.RawEdge{ID: 5, Label: "Bag", From: 5, To: 5, Props: ofEdge})
	return r
}

// P4.1: properties of records: not declared, twice, of another Kind, no value; null is one of each Kind.
func TestCheckProps(t *testing.T) {
	for i, l := range wrongProps() {
		wantRefused(t, fmt.Sprint(i), withProps(l, nil), api.PartNodes, 5, api.ErrRawValue)
		wantRefused(t, fmt.Sprint(i), withProps(nil, l), api.PartEdges, 5, api.ErrRawValue)
	}
	nulls := props(prop("s", null()), prop("b", null()), prop("n", null()))
	wantRight(t, "nulls", withProps(nulls, nulls))
	wantRefused(t, "a type without any", changed(func(r *api.Raw) { r.Nodes[1].Props = props(prop("x", null())) }), api.PartNodes, 1, api.ErrRawValue)
	wantRefused(t, "of the label's other part", changed(func(r *api.Raw) { r.Nodes[3].Props = props(prop("y", text("a"))) }), api.PartNodes, 3, api.ErrRawValue)
	wantRefused(t, "of the label's other part", changed(func(r *api.Raw) { r.Edges[1].Props = props(prop("x", integer(1))) }), api.PartEdges, 1, api.ErrRawValue)
	wantRefused(t, "of another type", changed(func(r *api.Raw) { r.Nodes[3].Props = props(prop("folk", integer(1))) }), api.PartNodes, 3, api.ErrRawValue)
}

// P4.1: which of the errors of one record is told, of each choice of them.
func TestCheckErrorsOfOneRecord(t *testing.T) {
	for i := range 48 {
		node, edge := api.RawNode{ID: 8, Label: "Isle"}, api.RawEdge{ID: 8, Label: "Both", From: 3, To: 4}
		ofNode, ofEdge := api.OK, api.OK
		value, end, label, id := i%2 == 1, i/2%4, i/8%2 == 1, i/16
		if value {
			node.Props, ofNode = props(prop("z", null())), api.ErrRawValue
			edge.Props, ofEdge = props(prop("z", null())), api.ErrRawValue
		}
		if end&1 != 0 {
			edge.From, ofEdge = 99, api.ErrRawEnd
		}
		if end&2 != 0 {
			edge.To, ofEdge = -1, api.ErrRawEnd
		}
		if label {
			node.Label, ofNode = "Way", api.ErrRawLabel
			edge.Label, ofEdge = "Isle", api.ErrRawLabel
		}
		if id == 1 {
			node.ID, ofNode = 3, api.ErrRawTwice
			edge.ID, ofEdge = 3, api.ErrRawTwice
		}
		if id == 2 {
			node.ID, ofNode = -1, api.ErrRawID
			edge.ID, ofEdge = api.MaxID+1, api.ErrRawID
		}
		if ofNode != api.OK {
			wantRefused(t, fmt.Sprint(i), changed(func(r *api.Raw) { r.Nodes = append(r.Nodes, node) }), api.PartNodes, 5, ofNode)
		}
		if ofEdge != api.OK {
			wantRefused(t, fmt.Sprint(i), changed(func(r *api.Raw) { r.Edges = append(r.Edges, edge) }), api.PartEdges, 5, ofEdge)
		}
	}
}

// P4.1: where several parts have a record that may not be, the first part's is told, whatever the errors are.
func TestCheckOrderOfParts(t *testing.T) {
	wrongs := [][]change{
		{func(r *api.Raw) { r.NodeTypes[2].Label = "" }, func(r *api.Raw) { r.NodeTypes[2].Props[0].Kind = api.Path }},
		{func(r *api.Raw) { r.EdgeTypes[1].Label = "" }, func(r *api.Raw) { r.EdgeTypes[1].Props[0].Kind = api.Path }},
		{func(r *api.Raw) { r.Nodes[4].ID = -1 }, func(r *api.Raw) { r.Nodes[4].Props[0].Value = text("") }},
		{func(r *api.Raw) { r.Edges[4].ID = -1 }, func(r *api.Raw) { r.Edges[4].Props[0].Value = integer(0) }},
	}
	want := [][]api.Errno{{api.ErrRawName, api.ErrRawProp}, {api.ErrRawName, api.ErrRawProp}, {api.ErrRawID, api.ErrRawValue}, {api.ErrRawID, api.ErrRawValue}}
	places := []int{2, 1, 4, 4}
	for choice := range 81 {
		r, first, e := graph(), -1, api.OK
		for part, rest := 0, choice; part < 4; part, rest = part+1, rest/3 {
			if rest%3 == 0 {
				continue
			}
			wrongs[part][rest%3-1](&r)
			if first < 0 {
				first, e = part, want[part][rest%3-1]
			}
		}
		if first >= 0 {
			wantRefused(t, fmt.Sprint(choice), r, api.Part(first+1), places[first], e)
		}
	}
}

// P4.1: of several records of one part the first one is told, whatever the errors are.
func TestCheckOrderOfRecords(t *testing.T) {
	kinds := func(r *api.Raw) { r.NodeTypes[0].Props[2].Kind = api.Fault }
	wantRefused(t, "types", changed(kinds, func(r *api.Raw) { r.NodeTypes[1].Label = "" }), api.PartNodeTypes, 0, api.ErrRawProp)
	many := func(r *api.Raw) { r.EdgeTypes[0].Props = propDecls(40) }
	wantRefused(t, "types", changed(many, func(r *api.Raw) { r.EdgeTypes[1].Label = "Way" }), api.PartEdgeTypes, 0, api.ErrTooMany)
	for first := range 5 {
		for second := first + 1; second < 5; second++ {
			r := changed(func(r *api.Raw) { r.Nodes[first].Props = props(prop("z", null())) }, func(r *api.Raw) { r.Nodes[second].ID = -1 })
			wantRefused(t, "nodes", r, api.PartNodes, first, api.ErrRawValue)
			r = changed(func(r *api.Raw) { r.Nodes[first].Label = "" }, func(r *api.Raw) { r.Nodes[second].ID = r.Nodes[first].ID })
			wantRefused(t, "nodes", r, api.PartNodes, first, api.ErrRawLabel)
			r = changed(func(r *api.Raw) { r.Edges[first].To = 5 }, func(r *api.Raw) { r.Edges[second].ID = -1 })
			wantRefused(t, "edges", r, api.PartEdges, first, api.ErrRawEnd)
			r = changed(func(r *api.Raw) { r.Edges[first].Props = props(prop("z", null())) }, func(r *api.Raw) { r.Edges[second].ID = r.Edges[first].ID })
			wantRefused(t, "edges", r, api.PartEdges, first, api.ErrRawValue)
		}
	}
}
