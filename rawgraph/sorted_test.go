package rawgraph_test

import (
	"math/rand"
	"reflect"
	"slices"
	"testing"

	"portolan/api"
	"portolan/rawgraph"
)

// P4.1: the types as they stand, records by rising IDs, properties as they are declared, without nulls.
func TestSorted(t *testing.T) {
	wantGraph(t, "graph", wantRight(t, "graph", graph()), graphInOrder())
}

// P4.1: types are not put into another order, nor are their properties.
func TestSortedLeavesTypes(t *testing.T) {
	r := api.Raw{
		NodeTypes: []api.TypeDecl{declared("b", propDecls(32)...), declared("a"), declared("c")},
		EdgeTypes: []api.TypeDecl{declared("z"), declared("y", api.PropDecl{Name: "z", Kind: api.Text}, api.PropDecl{Name: "a", Kind: api.Int}), declared("b")},
	}
	slices.Reverse(r.NodeTypes[0].Props)
	wantGraph(t, "types", wantRight(t, "types", r), copied(r))
}

// P4.1: all orders of four properties of a record, of which any may be null or not be there.
func TestSortedProps(t *testing.T) {
	of := props(prop("d", text("x")), prop("a", integer(0)), prop("c", truth(false)), prop("b", text("")))
	d := declared("T", api.PropDecl{Name: "d", Kind: api.Text}, api.PropDecl{Name: "a", Kind: api.Int}, api.PropDecl{Name: "c", Kind: api.Bool}, api.PropDecl{Name: "b", Kind: api.Text})
	for choice := range 81 {
		var have, want []api.PropValue
		for i, rest := 0, choice; i < 4; i, rest = i+1, rest/3 {
			switch rest % 3 {
			case 1:
				have = append(have, prop(of[i].Name, null()))
			case 2:
				have, want = append(have, of[i]), append(want, of[i])
			}
		}
		orders(have, func(l []api.PropValue) {
			r := api.Raw{NodeTypes: []api.TypeDecl{d}, EdgeTypes: []api.TypeDecl{d}, Nodes: []api.RawNode{{ID: 1, Label: "T", Props: l}}, Edges: []api.RawEdge{{ID: 2, Label: "T", From: 1, To: 1, Props: l}}}
			s := wantRight(t, "properties", r)
			r.Nodes[0].Props, r.Edges[0].Props = want, want
			wantGraph(t, "properties", s, r)
		})
	}
}

// orders hands on a list in every order.
func orders[T any](l []T, do func([]T)) {
	var down func(from int)
	down = func(from int) {
		if from >= len(l)-1 {
			do(l)
			return
		}
		for i := from; i < len(l); i++ {
			l[from], l[i] = l[i], l[from]
			down(from + 1)
			l[from], l[i] = l[i], l[from]
		}
	}
	down(0)
}

// P4.2: records in every order; Sorted tells the same of all.
func TestSortedOfEveryOrder(t *testing.T) {
	r, want := graph(), graphInOrder()
	orders(r.Nodes, func([]api.RawNode) { wantGraph(t, "nodes in another order", wantRight(t, "nodes", r), want) })
	orders(r.Edges, func([]api.RawEdge) { wantGraph(t, "edges in another order", wantRight(t, "edges", r), want) })
	d := rand.New(rand.NewSource(4))
	for range 200 {
		d.Shuffle(len(r.Nodes), func(i, j int) { r.Nodes[i], r.Nodes[j] = r.Nodes[j], r.Nodes[i] })
		d.Shuffle(len(r.Edges), func(i, j int) { r.Edges[i], r.Edges[j] = r.Edges[j], r.Edges[i] })
		wantGraph(t, "both in another order", wantRight(t, "both", r), want)
	}
}

// P4.2: any of the edges left out.
func TestEdgesLeftOut(t *testing.T) {
	for choice := range 1 << 5 {
		r, want := graph(), graphInOrder()
		left := func(e api.RawEdge) bool {
			return choice>>slices.IndexFunc(graph().Edges, func(x api.RawEdge) bool { return x.ID == e.ID })&1 == 1
		}
		r.Edges, want.Edges = slices.DeleteFunc(r.Edges, left), slices.DeleteFunc(want.Edges, left)
		wantGraph(t, "edges left out", wantRight(t, "edges left out", r), want)
	}
}

// P4.3: Sorted of what Sorted told is that.
func TestSortedAgain(t *testing.T) {
	for _, r := range []api.Raw{{}, graph(), graphInOrder()} {
		s := wantRight(t, "once", r)
		wantGraph(t, "again", wantRight(t, "again", s), copied(s))
	}
}

// roomy is a graph whose lists have spare room in which something stands; so have the empty paths of its values.
func roomy(r api.Raw) api.Raw {
	r = copied(r)
	r.NodeTypes, r.EdgeTypes = withRoom(r.NodeTypes, declared("Spare")), withRoom(r.EdgeTypes, declared("Spare"))
	r.Nodes, r.Edges = withRoom(r.Nodes, api.RawNode{ID: 77}), withRoom(r.Edges, api.RawEdge{ID: 77})
	for _, l := range [][]api.TypeDecl{r.NodeTypes, r.EdgeTypes} {
		for i := range l {
			l[i].Props = withRoom(l[i].Props, api.PropDecl{Name: "spare"})
		}
	}
	for i := range r.Nodes {
		r.Nodes[i].Props = roomyProps(r.Nodes[i].Props)
	}
	for i := range r.Edges {
		r.Edges[i].Props = roomyProps(r.Edges[i].Props)
	}
	return r
}

func roomyProps(l []api.PropValue) []api.PropValue {
	l = withRoom(l, prop("spare", integer(77)))
	for i := range l {
		l[i].Value.Path = withRoom(l[i].Value.Path, 77)
	}
	return l
}

func withRoom[T any](l []T, spare T) []T {
	return append(slices.Clone(l), spare, spare)[:len(l)]
}

// spoil overwrites all that a caller has in hand, its spare room too.
func spoil(v reflect.Value) {
	switch v.Kind() {
	case reflect.Slice:
		v = v.Slice(0, v.Cap())
		for i := range v.Len() {
			spoil(v.Index(i))
		}
	case reflect.Struct:
		for i := range v.NumField() {
			spoil(v.Field(i))
		}
	case reflect.String:
		v.SetString("spoilt")
	case reflect.Bool:
		v.SetBool(!v.Bool())
	default:
		v.SetInt(999)
	}
}

// room is the memory of a list, from its first byte to behind its spare room.
type room struct{ from, to uintptr }

// lists are the rooms of all lists in a graph.
func lists(v reflect.Value) []room {
	var out []room
	switch v.Kind() {
	case reflect.Slice:
		if v.Cap() > 0 {
			out = append(out, room{v.Pointer(), v.Pointer() + uintptr(v.Cap())*v.Type().Elem().Size()})
		}
		for i := range v.Len() {
			out = append(out, lists(v.Index(i))...)
		}
	case reflect.Struct:
		for i := range v.NumField() {
			out = append(out, lists(v.Field(i))...)
		}
	}
	return out
}

// wantApart: no two lists of all these graphs share memory.
func wantApart(t *testing.T, graphs ...api.Raw) {
	t.Helper()
	var all []room
	for _, r := range graphs {
		all = append(all, lists(reflect.ValueOf(r))...)
	}
	for i, a := range all {
		for _, b := range all[:i] {
			if a.from < b.to && b.from < a.to {
				t.Errorf("two lists share memory: %v, %v", a, b)
			}
		}
	}
}

// P3: what is handed in stands as it was, with its spare room.
func TestHandedInStands(t *testing.T) {
	wrong := graph()
	wrong.Edges[4].To = 5
	for _, r := range []api.Raw{{}, graph(), graphInOrder(), wrong} {
		r = roomy(r)
		was := toldWithRoom(r)
		rawgraph.Check(r)
		rawgraph.Sorted(r)
		if now := toldWithRoom(r); now != was {
			t.Errorf("what was handed in has changed:\n%s\nwant\n%s", now, was)
		}
	}
}

// P3: what was told does not change with what was handed in, nor that, nor what is told again, with what was told.
func TestHandedOutIsNew(t *testing.T) {
	r := roomy(graph())
	was := toldWithRoom(r)
	a, b := wantRight(t, "once", r), wantRight(t, "again", r)
	wantApart(t, r, a, b)
	spoil(reflect.ValueOf(&a).Elem())
	if now := toldWithRoom(r); now != was {
		t.Errorf("what was handed in has changed with what was told:\n%s\nwant\n%s", now, was)
	}
	wantGraph(t, "once told, spoilt", b, graphInOrder())
	spoil(reflect.ValueOf(&r).Elem())
	wantGraph(t, "handed in, spoilt", b, graphInOrder())
	wantGraph(t, "told afterwards", wantRight(t, "graph", graph()), graphInOrder())
}

// P3: lists that share memory where they are handed in share none where they are told.
func TestHandedInShared(t *testing.T) {
	decls := propDecls(3)
	values := props(prop("p1", integer(1)), prop("p0", truth(true)))
	r := api.Raw{
		NodeTypes: []api.TypeDecl{declared("A", decls...), declared("B", decls[:2]...)},
		EdgeTypes: []api.TypeDecl{declared("A", decls...)},
		Nodes:     []api.RawNode{{ID: 2, Label: "A", Props: values}, {ID: 1, Label: "B", Props: values}, {ID: 0, Label: "A", Props: values[:1]}},
		Edges:     []api.RawEdge{{ID: 2, Label: "A", From: 1, To: 1, Props: values}},
	}
	s := wantRight(t, "shared", r)
	wantApart(t, s)
	spoil(reflect.ValueOf(&s.Nodes[0].Props).Elem())
	spoil(reflect.ValueOf(&s.NodeTypes[0].Props).Elem())
	s.Nodes[0].Props, s.NodeTypes[0].Props = props(prop("p1", integer(1))), decls
	want := copied(r)
	slices.Reverse(want.Nodes)
	both := props(prop("p0", truth(true)), prop("p1", integer(1)))
	want.Nodes[1].Props, want.Nodes[2].Props, want.Edges[0].Props = both, both, both
	wantGraph(t, "one list spoilt", s, want)
}
