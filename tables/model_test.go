package tables_test

import (
	"fmt"
	"math/rand"
	"slices"
	"testing"

	"portolan/api"
	"portolan/rawgraph"
	"portolan/tables"
)

// plain is a graph as it was handed in; a record's place is how many have IDs below its own.
type plain struct {
	raw          api.Raw
	nodes, edges []int64
}

func plainOf(r api.Raw) plain {
	p := plain{raw: r}
	for _, n := range r.Nodes {
		p.nodes = append(p.nodes, n.ID)
	}
	for _, d := range r.Edges {
		p.edges = append(p.edges, d.ID)
	}
	return p
}

// rank is how many of the IDs are below one; -1, if it is none of them.
func rank(ids []int64, id int64) int {
	below, there := 0, false
	for _, x := range ids {
		there = there || x == id
		if x < id {
			below++
		}
	}
	if !there {
		return -1
	}
	return below
}

func (p plain) Nodes() int { return len(p.raw.Nodes) }

func (p plain) Edges() int { return len(p.raw.Edges) }

func (p plain) NodeTypes() []api.TypeDecl { return p.raw.NodeTypes }

func (p plain) EdgeTypes() []api.TypeDecl { return p.raw.EdgeTypes }

func (p plain) NodeAt(id int64) int { return rank(p.nodes, id) }

func (p plain) EdgeAt(id int64) int { return rank(p.edges, id) }

// node and edge are the records at a place; where there is none, their ID is -1.
func (p plain) node(i int) api.RawNode {
	for _, n := range p.raw.Nodes {
		if p.NodeAt(n.ID) == i {
			return n
		}
	}
	return api.RawNode{ID: -1}
}

func (p plain) edge(i int) api.RawEdge {
	for _, d := range p.raw.Edges {
		if p.EdgeAt(d.ID) == i {
			return d
		}
	}
	return api.RawEdge{ID: -1, From: -1, To: -1}
}

func (p plain) NodeID(i int) int64 { return p.node(i).ID }

func (p plain) EdgeID(i int) int64 { return p.edge(i).ID }

func (p plain) NodeType(i int) int { return plainType(p.raw.NodeTypes, p.node(i).Label) }

func (p plain) EdgeType(i int) int { return plainType(p.raw.EdgeTypes, p.edge(i).Label) }

func plainType(types []api.TypeDecl, label string) int {
	return slices.IndexFunc(types, func(d api.TypeDecl) bool { return d.Label == label })
}

func (p plain) Ends(i int) (int, int) {
	d := p.edge(i)
	return p.NodeAt(d.From), p.NodeAt(d.To)
}

func (p plain) NodeProp(i int, name string) api.Value { return plainProp(p.node(i).Props, name) }

func (p plain) EdgeProp(i int, name string) api.Value { return plainProp(p.edge(i).Props, name) }

func plainProp(l []api.PropValue, name string) api.Value {
	for _, p := range l {
		if p.Name == name {
			return p.Value
		}
	}
	return null()
}

func (p plain) OfType(t int) []int {
	var l []int
	for i := range p.raw.Nodes {
		if t == -1 || p.NodeType(i) == t {
			l = append(l, i)
		}
	}
	return l
}

func (p plain) Raw() api.Raw {
	sorted, _ := rawgraph.Sorted(p.raw)
	return sorted
}

// drawn makes graphs that may be.
type drawn struct{ *rand.Rand }

func (d drawn) types() []api.TypeDecl {
	var l []api.TypeDecl
	for _, at := range d.Perm(4)[:1+d.Intn(3)] {
		of := decl("ABCD"[at : at+1])
		for _, k := range d.Perm(3)[:d.Intn(4)] {
			of.Props = append(of.Props, api.PropDecl{Name: "xyz"[k : k+1], Kind: []api.Kind{api.Bool, api.Int, api.Text}[d.Intn(3)]})
		}
		l = append(l, of)
	}
	return l
}

func (d drawn) value(k api.Kind) api.Value {
	switch {
	case d.Intn(4) == 0:
		return null()
	case k == api.Bool:
		return truth(d.Intn(2) == 0)
	case k == api.Int:
		return integer(int64(d.Uint64()) >> d.Intn(64))
	}
	return text(fmt.Sprint(d.Intn(5)))
}

// record is a label of the types, and properties of it.
func (d drawn) record(types []api.TypeDecl) (string, []api.PropValue) {
	of := types[d.Intn(len(types))]
	var l []api.PropValue
	for _, k := range d.Perm(len(of.Props)) {
		if p := of.Props[k]; d.Intn(4) > 0 {
			l = append(l, with(p.Name, d.value(p.Kind))...)
		}
	}
	return of.Label, l
}

// ids are some, in no order; those near MaxID too.
func (d drawn) ids(most int) []int64 {
	var l []int64
	for _, id := range d.Perm(20)[:d.Intn(most)] {
		if id > 17 {
			id += api.MaxID - 19
		}
		l = append(l, int64(id))
	}
	return l
}

func (d drawn) graph() api.Raw {
	r := api.Raw{NodeTypes: d.types(), EdgeTypes: d.types()}
	for _, id := range d.ids(10) {
		label, props := d.record(r.NodeTypes)
		r.Nodes = append(r.Nodes, api.RawNode{ID: id, Label: label, Props: props})
	}
	for _, id := range d.ids(15) {
		if len(r.Nodes) == 0 {
			break
		}
		label, props := d.record(r.EdgeTypes)
		from, to := r.Nodes[d.Intn(len(r.Nodes))].ID, r.Nodes[d.Intn(len(r.Nodes))].ID
		r.Edges = append(r.Edges, api.RawEdge{ID: id, Label: label, From: from, To: to, Props: props})
	}
	return r
}

// P5.1, P5.2: drawn graphs, held against plain ones, loaded again from what they told, and from records in another order.
func TestAgainstPlainOnes(t *testing.T) {
	d := drawn{rand.New(rand.NewSource(5))}
	for range 1000 {
		r := d.graph()
		was := toldRaw(opened(r))
		must := answers(plainOf(r))
		g := loaded(t, r)
		wantAnswers(t, was, answers(g), must)
		want(t, "what was handed in", toldRaw(opened(r)), was)
		wantAnswers(t, was, answers(loaded(t, g.Raw())), must)
		d.Shuffle(len(r.Nodes), func(i, j int) { r.Nodes[i], r.Nodes[j] = r.Nodes[j], r.Nodes[i] })
		d.Shuffle(len(r.Edges), func(i, j int) { r.Edges[i], r.Edges[j] = r.Edges[j], r.Edges[i] })
		wantAnswers(t, was, answers(loaded(t, r)), must)
	}
}

// breakOne makes one thing in a graph wrong, or leaves it, if there is no such thing.
func (d drawn) breakOne(r api.Raw) {
	nodes, edges := len(r.Nodes), len(r.Edges)
	switch d.Intn(6) {
	case 0:
		r.NodeTypes[d.Intn(len(r.NodeTypes))].Label = "1"
	case 1:
		r.EdgeTypes[d.Intn(len(r.EdgeTypes))].Props = append(decl("", "x:i").Props, api.PropDecl{Name: "x"})
	case 2:
		if nodes > 0 {
			r.Nodes[d.Intn(nodes)].ID = r.Nodes[d.Intn(nodes)].ID
		}
	case 3:
		if nodes > 0 {
			r.Nodes[d.Intn(nodes)].Props = with("w", null())
		}
	case 4:
		if edges > 0 {
			r.Edges[d.Intn(edges)].Label = "Z"
		}
	case 5:
		if edges > 0 {
			r.Edges[d.Intn(edges)].From = 1 << 30
		}
	}
}

// P5.1, T1: Load refuses just what Check refuses, with its place and error.
func TestRefusedAsChecked(t *testing.T) {
	d := drawn{rand.New(rand.NewSource(6))}
	refused := 0
	for range 3000 {
		r := d.graph()
		for range d.Intn(4) {
			d.breakOne(r)
		}
		at, e := rawgraph.Check(r)
		if e != api.OK {
			refused++
		}
		g, place, no := tables.Load(r)
		if place != at || no != e || (g == nil) != (e != api.OK) {
			t.Fatalf("Load of %s: %v, %v, %v, want Check's %v, %v", toldRaw(r), g, place, no, at, e)
		}
	}
	want(t, "some are refused, some not", refused > 300 && refused < 2700, true)
}

// P5.1: many records, in no order, of many types: each is found by its ID, has its properties, its ends, its type.
func TestManyRecords(t *testing.T) {
	const count, types = 60000, 64
	r := api.Raw{NodeTypes: manyTypes(types), EdgeTypes: manyTypes(types)}
	for i := range types {
		r.NodeTypes[i].Props, r.EdgeTypes[i].Props = decl("", "n:i", "t:t").Props, decl("", "t:t", "n:i").Props
	}
	for i := range int64(count) {
		id := i * 7919 % count
		l := with("n", integer(id), "t", text(fmt.Sprint(id%1000)))
		label := fmt.Sprint("T", id%types)
		r.Nodes = append(r.Nodes, api.RawNode{ID: id * 3, Label: label, Props: l})
		r.Edges = append(r.Edges, api.RawEdge{ID: id * 5, Label: label, From: i * 3, To: id * 3, Props: l})
	}
	g := loaded(t, r)
	from := make([]int, count)
	for i := range count {
		from[i*7919%count] = i
	}
	for i := range count {
		a, b := g.Ends(i)
		if g.NodeAt(int64(i)*3) != i || g.EdgeAt(int64(i)*5) != i || g.NodeID(i) != int64(i)*3 || g.EdgeID(i) != int64(i)*5 || a != from[i] || b != i {
			t.Fatalf("at %d: IDs or ends", i)
		}
		if g.NodeType(i) != i%types || g.EdgeType(i) != i%types || g.NodeAt(int64(i)*3+1) != -1 || g.EdgeAt(int64(i)*5-1) != -1 {
			t.Fatalf("at %d: types, or an ID that is not there", i)
		}
		if n, s := integer(int64(i)), text(fmt.Sprint(i%1000)); toldValue(g.NodeProp(i, "n")) != toldValue(n) || toldValue(g.EdgeProp(i, "n")) != toldValue(n) || toldValue(g.NodeProp(i, "t")) != toldValue(s) || toldValue(g.EdgeProp(i, "t")) != toldValue(s) {
			t.Fatalf("at %d: properties", i)
		}
	}
	for of := range types {
		l := g.OfType(of)
		want(t, "OfType", len(l), len(r.Nodes)/types+min(1, max(0, len(r.Nodes)%types-of)))
		for k, i := range l {
			want(t, "OfType", i, of+k*types)
		}
	}
	want(t, "OfType(-1)", len(g.OfType(-1)), count)
}
