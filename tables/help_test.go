package tables_test

import (
	"fmt"
	"math"
	"slices"
	"strings"
	"testing"

	"portolan/api"
	"portolan/tables"
)

func null() api.Value { return api.Value{} }

func truth(b bool) api.Value { return api.Value{Kind: api.Bool, Bool: b} }

func integer(n int64) api.Value { return api.Value{Kind: api.Int, Int: n} }

func text(s string) api.Value { return api.Value{Kind: api.Text, Text: s} }

// decl is a type; of a property's text the last letter is its kind: b, i or t.
func decl(label string, props ...string) api.TypeDecl {
	d := api.TypeDecl{Label: label}
	for _, p := range props {
		name, kind, _ := strings.Cut(p, ":")
		d.Props = append(d.Props, api.PropDecl{Name: name, Kind: map[string]api.Kind{"b": api.Bool, "i": api.Int, "t": api.Text}[kind]})
	}
	return d
}

// with are properties: a name, a value, and so on.
func with(l ...any) []api.PropValue {
	var out []api.PropValue
	for i := 0; i < len(l); i += 2 {
		out = append(out, api.PropValue{Name: l[i].(string), Value: l[i+1].(api.Value)})
	}
	return out
}

// graph is one whose records and properties stand in no order. It has nulls, loops, edges between the same nodes, IDs and a label that both parts have, types without records, types without properties, names of properties that several types have, of other kinds and at other places.
func graph() api.Raw {
	return api.Raw{
		NodeTypes: []api.TypeDecl{decl("Town", "name:t", "folk:i", "port:b"), decl("None", "name:t"), decl("Isle"), decl("Both", "folk:t", "x:i")},
		EdgeTypes: []api.TypeDecl{decl("Both", "x:b"), decl("Way", "miles:i", "by:t", "name:t"), decl("Void"), decl("Bare")},
		Nodes: []api.RawNode{
			{ID: 7, Label: "Town", Props: with("port", truth(true), "name", text("Porto"))},
			{ID: api.MaxID, Label: "Isle"},
			{ID: 0, Label: "Town", Props: with("folk", null(), "port", truth(false), "name", text(""))},
			{ID: 3, Label: "Both", Props: with("x", integer(-5), "folk", text("few"))},
			{ID: 4, Label: "Town", Props: with("folk", integer(0))},
			{ID: 5, Label: "Isle"},
		},
		Edges: []api.RawEdge{
			{ID: 9, Label: "Way", From: 7, To: 0, Props: with("name", text("IC1"), "by", null(), "miles", integer(math.MaxInt64))},
			{ID: 3, Label: "Both", From: 3, To: 3, Props: with("x", truth(true))},
			{ID: api.MaxID, Label: "Bare", From: api.MaxID, To: 4},
			{ID: 0, Label: "Way", From: 7, To: 0},
			{ID: 8, Label: "Way", From: 0, To: 7, Props: with("by", text("it's"), "miles", integer(math.MinInt64))},
			{ID: 4, Label: "Both", From: 3, To: 3},
		},
	}
}

// graphInOrder is what Raw must tell of graph.
func graphInOrder() api.Raw {
	r := graph()
	r.Nodes = []api.RawNode{
		{ID: 0, Label: "Town", Props: with("name", text(""), "port", truth(false))},
		{ID: 3, Label: "Both", Props: with("folk", text("few"), "x", integer(-5))},
		{ID: 4, Label: "Town", Props: with("folk", integer(0))},
		{ID: 5, Label: "Isle"},
		{ID: 7, Label: "Town", Props: with("name", text("Porto"), "port", truth(true))},
		{ID: api.MaxID, Label: "Isle"},
	}
	r.Edges = []api.RawEdge{
		{ID: 0, Label: "Way", From: 7, To: 0},
		{ID: 3, Label: "Both", From: 3, To: 3, Props: with("x", truth(true))},
		{ID: 4, Label: "Both", From: 3, To: 3},
		{ID: 8, Label: "Way", From: 0, To: 7, Props: with("miles", integer(math.MinInt64), "by", text("it's"))},
		{ID: 9, Label: "Way", From: 7, To: 0, Props: with("miles", integer(math.MaxInt64), "name", text("IC1"))},
		{ID: api.MaxID, Label: "Bare", From: api.MaxID, To: 4},
	}
	return r
}

// loaded is a graph that Load must take.
func loaded(t *testing.T, r api.Raw) *tables.Graph {
	t.Helper()
	g, at, e := tables.Load(r)
	if g == nil || at != (api.Place{}) || e != api.OK {
		t.Fatalf("Load of %s: %v, %v, %v", toldRaw(r), g, at, e)
	}
	return g
}

// asked is what the chapter lists: a graph has it, and the plain one that it is held against.
type asked interface {
	Nodes() int
	Edges() int
	NodeTypes() []api.TypeDecl
	EdgeTypes() []api.TypeDecl
	NodeID(i int) int64
	EdgeID(i int) int64
	NodeAt(id int64) int
	EdgeAt(id int64) int
	NodeType(i int) int
	EdgeType(i int) int
	Ends(i int) (int, int)
	NodeProp(i int, name string) api.Value
	EdgeProp(i int, name string) api.Value
	OfType(t int) []int
	Raw() api.Raw
}

// outside are places that no graph of these tests has.
func outside() []int {
	return []int{math.MinInt, -64, -2, -1, 1 << 20, math.MaxInt32, 1 << 32, math.MaxInt}
}

// names are those of properties that the graphs of these tests declare, and others.
func names() []string {
	return []string{"", "name", "folk", "port", "x", "y", "z", "miles", "by", "Name", "na", "names", "Town", "\xff"}
}

// answers are all of a graph's: to its places and others, its IDs and others, its types and others, and names.
func answers(g asked) string {
	var b strings.Builder
	fmt.Fprintln(&b, g.Nodes(), g.Edges(), toldRaw(api.Raw{NodeTypes: g.NodeTypes(), EdgeTypes: g.EdgeTypes()}))
	fmt.Fprintln(&b, toldRaw(g.Raw()))
	for _, i := range append(outside(), upTo(max(g.Nodes(), g.Edges())+2)...) {
		from, to := g.Ends(i)
		fmt.Fprintln(&b, i, g.NodeID(i), g.EdgeID(i), g.NodeType(i), g.EdgeType(i), from, to)
		for _, name := range names() {
			fmt.Fprintf(&b, "%q %s %s\n", name, toldValue(g.NodeProp(i, name)), toldValue(g.EdgeProp(i, name)))
		}
	}
	for _, id := range []int64{math.MinInt64, -2, -1, api.MaxID - 1, api.MaxID, api.MaxID + 1, math.MaxInt64} {
		fmt.Fprintln(&b, id, g.NodeAt(id), g.EdgeAt(id))
	}
	for id := range int64(20) {
		fmt.Fprintln(&b, id, g.NodeAt(id), g.EdgeAt(id))
	}
	for _, t := range append(outside(), upTo(66)...) {
		fmt.Fprintln(&b, t, g.OfType(t))
	}
	return b.String()
}

func upTo(n int) []int {
	l := make([]int, n)
	for i := range l {
		l[i] = i
	}
	return l
}

// wantAnswers holds all answers of two graphs against one another, and tells the first line that differs.
func wantAnswers(t *testing.T, what string, got, want string) {
	t.Helper()
	if got == want {
		return
	}
	a, b := strings.Split(got, "\n"), strings.Split(want, "\n")
	for i := range min(len(a), len(b)) {
		if a[i] != b[i] {
			t.Fatalf("%s: line %d is\n%s\nwant\n%s", what, i, a[i], b[i])
		}
	}
	t.Fatalf("%s: %d lines, want %d", what, len(a), len(b))
}

// toldRaw writes a graph out; an empty list is the same, be it nil or not.
func toldRaw(r api.Raw) string {
	var b strings.Builder
	for _, l := range [][]api.TypeDecl{r.NodeTypes, r.EdgeTypes} {
		b.WriteString("types:")
		for _, d := range l {
			fmt.Fprintf(&b, " %q", d.Label)
			for _, p := range d.Props {
				fmt.Fprintf(&b, " (%q %d)", p.Name, p.Kind)
			}
		}
	}
	for _, n := range r.Nodes {
		fmt.Fprintf(&b, " node %d %q%s", n.ID, n.Label, toldProps(n.Props))
	}
	for _, d := range r.Edges {
		fmt.Fprintf(&b, " edge %d %q %d %d%s", d.ID, d.Label, d.From, d.To, toldProps(d.Props))
	}
	return b.String()
}

func toldProps(l []api.PropValue) string {
	var b strings.Builder
	for _, p := range l {
		fmt.Fprintf(&b, " %q=%s", p.Name, toldValue(p.Value))
	}
	return b.String()
}

func toldValue(v api.Value) string {
	return fmt.Sprintf("{%d %t %d %q %d}", v.Kind, v.Bool, v.Int, v.Text, v.Path)
}

// change is what becomes of each kind of list; the lists that its functions answer must stand in new memory, in which those within are put.
type change struct {
	types func([]api.TypeDecl) []api.TypeDecl
	decls func([]api.PropDecl) []api.PropDecl
	nodes func([]api.RawNode) []api.RawNode
	edges func([]api.RawEdge) []api.RawEdge
	props func([]api.PropValue) []api.PropValue
	path  func([]int64) []int64
}

func (c change) of(r api.Raw) api.Raw {
	types := func(l []api.TypeDecl) []api.TypeDecl {
		l = c.types(l)
		for i := range l {
			l[i].Props = c.decls(l[i].Props)
		}
		return l
	}
	props := func(l []api.PropValue) []api.PropValue {
		l = c.props(l)
		for i := range l {
			l[i].Value.Path = c.path(l[i].Value.Path)
		}
		return l
	}
	r = api.Raw{NodeTypes: types(r.NodeTypes), EdgeTypes: types(r.EdgeTypes), Nodes: c.nodes(r.Nodes), Edges: c.edges(r.Edges)}
	for i := range r.Nodes {
		r.Nodes[i].Props = props(r.Nodes[i].Props)
	}
	for i := range r.Edges {
		r.Edges[i].Props = props(r.Edges[i].Props)
	}
	return r
}

// roomy is a graph in new memory, each of whose lists has spare room in which something stands, the empty paths too.
func roomy(r api.Raw) api.Raw {
	return change{
		types: func(l []api.TypeDecl) []api.TypeDecl { return withRoom(l, decl("Spare")) },
		decls: func(l []api.PropDecl) []api.PropDecl { return withRoom(l, api.PropDecl{Name: "spare"}) },
		nodes: func(l []api.RawNode) []api.RawNode { return withRoom(l, api.RawNode{ID: 77}) },
		edges: func(l []api.RawEdge) []api.RawEdge { return withRoom(l, api.RawEdge{ID: 77}) },
		props: func(l []api.PropValue) []api.PropValue { return withRoom(l, api.PropValue{Name: "spare"}) },
		path:  func(l []int64) []int64 { return withRoom(l, 77) },
	}.of(r)
}

func withRoom[T any](l []T, spare T) []T {
	return append(slices.Clone(l), spare, spare, spare)[:len(l)]
}

// opened is a graph in new memory, with what stands in its lists' spare room behind each list.
func opened(r api.Raw) api.Raw {
	return change{types: open, decls: open, nodes: open, edges: open, props: open, path: open}.of(r)
}

func open[T any](l []T) []T { return slices.Clone(l[:cap(l)]) }

// spoil overwrites all that a caller has of a graph in hand, the lists' spare room too.
func spoil(r api.Raw) {
	change{
		types: func(l []api.TypeDecl) []api.TypeDecl { return spoilt(l, decl("spoilt")) },
		decls: func(l []api.PropDecl) []api.PropDecl { return spoilt(l, api.PropDecl{Name: "spoilt", Kind: api.Path}) },
		nodes: func(l []api.RawNode) []api.RawNode { return spoilt(l, api.RawNode{ID: 999, Label: "spoilt"}) },
		edges: func(l []api.RawEdge) []api.RawEdge { return spoilt(l, api.RawEdge{ID: 999, From: 998, To: 997}) },
		props: func(l []api.PropValue) []api.PropValue {
			return spoilt(l, api.PropValue{Name: "spoilt", Value: text("spoilt")})
		},
		path: func(l []int64) []int64 { return spoilt(l, 999) },
	}.of(r)
}

// spoilt overwrites a list, and is what stood in it: so that the lists within can be come at.
func spoilt[T any](l []T, by T) []T {
	l = l[:cap(l)]
	was := slices.Clone(l)
	for i := range l {
		l[i] = by
	}
	return was
}
