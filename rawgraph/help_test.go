package rawgraph_test

import (
	"fmt"
	"reflect"
	"slices"
	"strings"
	"testing"

	"portolan/api"
	"portolan/rawgraph"
)

func null() api.Value { return api.Value{} }

func truth(b bool) api.Value { return api.Value{Kind: api.Bool, Bool: b} }

func integer(n int64) api.Value { return api.Value{Kind: api.Int, Int: n} }

func text(s string) api.Value { return api.Value{Kind: api.Text, Text: s} }

func prop(name string, v api.Value) api.PropValue { return api.PropValue{Name: name, Value: v} }

func props(l ...api.PropValue) []api.PropValue { return l }

func declared(label string, l ...api.PropDecl) api.TypeDecl {
	return api.TypeDecl{Label: label, Props: l}
}

// graph is one that may be. Records and their properties stand in no order; there are nulls, a loop, two edges between the same nodes, a label and IDs that both parts have.
func graph() api.Raw {
	return api.Raw{
		NodeTypes: []api.TypeDecl{
			declared("Town", api.PropDecl{Name: "name", Kind: api.Text}, api.PropDecl{Name: "folk", Kind: api.Int}, api.PropDecl{Name: "port", Kind: api.Bool}),
			declared("Isle"),
			declared("Both", api.PropDecl{Name: "x", Kind: api.Int}),
		},
		EdgeTypes: []api.TypeDecl{
			declared("Way", api.PropDecl{Name: "miles", Kind: api.Int}, api.PropDecl{Name: "by", Kind: api.Text}, api.PropDecl{Name: "open", Kind: api.Bool}),
			declared("Both", api.PropDecl{Name: "y", Kind: api.Text}),
		},
		Nodes: []api.RawNode{
			{ID: 7, Label: "Town", Props: props(prop("port", truth(true)), prop("name", text("Porto")))},
			{ID: api.MaxID, Label: "Isle"},
			{ID: 0, Label: "Town", Props: props(prop("folk", null()), prop("port", truth(false)), prop("name", text("")))},
			{ID: 3, Label: "Both", Props: props(prop("x", integer(-5)))},
			{ID: 4, Label: "Town", Props: props(prop("folk", integer(0)))},
		},
		Edges: []api.RawEdge{
			{ID: 9, Label: "Way", From: 7, To: 0, Props: props(prop("open", truth(true)), prop("by", null()), prop("miles", integer(12)))},
			{ID: 3, Label: "Both", From: 3, To: 3},
			{ID: api.MaxID, Label: "Both", From: api.MaxID, To: 4, Props: props(prop("y", text("it's")))},
			{ID: 0, Label: "Way", From: 7, To: 0},
			{ID: 7, Label: "Way", From: 0, To: 7, Props: props(prop("by", text("sea")), prop("miles", integer(1<<62)))},
		},
	}
}

// graphInOrder is what Sorted must tell of graph.
func graphInOrder() api.Raw {
	r := graph()
	r.Nodes = []api.RawNode{
		{ID: 0, Label: "Town", Props: props(prop("name", text("")), prop("port", truth(false)))},
		{ID: 3, Label: "Both", Props: props(prop("x", integer(-5)))},
		{ID: 4, Label: "Town", Props: props(prop("folk", integer(0)))},
		{ID: 7, Label: "Town", Props: props(prop("name", text("Porto")), prop("port", truth(true)))},
		{ID: api.MaxID, Label: "Isle"},
	}
	r.Edges = []api.RawEdge{
		{ID: 0, Label: "Way", From: 7, To: 0},
		{ID: 3, Label: "Both", From: 3, To: 3},
		{ID: 7, Label: "Way", From: 0, To: 7, Props: props(prop("miles", integer(1<<62)), prop("by", text("sea")))},
		{ID: 9, Label: "Way", From: 7, To: 0, Props: props(prop("miles", integer(12)), prop("open", truth(true)))},
		{ID: api.MaxID, Label: "Both", From: api.MaxID, To: 4, Props: props(prop("y", text("it's")))},
	}
	return r
}

// told writes a graph out, field by field: an empty list is the same, be it nil or not.
func told(r api.Raw) string {
	var b strings.Builder
	tell(&b, reflect.ValueOf(r), false)
	return b.String()
}

// toldWithRoom writes the lists' spare room too.
func toldWithRoom(r api.Raw) string {
	var b strings.Builder
	tell(&b, reflect.ValueOf(r), true)
	return b.String()
}

func tell(b *strings.Builder, v reflect.Value, room bool) {
	switch v.Kind() {
	case reflect.Slice:
		if room {
			v = v.Slice(0, v.Cap())
		}
		b.WriteString("[")
		for i := range v.Len() {
			tell(b, v.Index(i), room)
		}
		b.WriteString("]")
	case reflect.Struct:
		b.WriteString("{")
		for i := range v.NumField() {
			tell(b, v.Field(i), room)
		}
		b.WriteString("}")
	default:
		fmt.Fprintf(b, "%#v ", v)
	}
}

// wantGraph holds a graph against what it must be.
func wantGraph(t *testing.T, what string, got, want api.Raw) {
	t.Helper()
	if told(got) != told(want) {
		t.Errorf("%s:\n%s\nwant\n%s", what, told(got), told(want))
	}
}

// wantRefused: Check tells a record and why, Sorted why, and nothing else.
func wantRefused(t *testing.T, what string, r api.Raw, part api.Part, at int, want api.Errno) {
	t.Helper()
	place, e := rawgraph.Check(r)
	if place != (api.Place{Part: part, At: at}) || e != want {
		t.Errorf("%s: Check: %v, %v, want {%v %v}, %v", what, place, e, part, at, want)
	}
	s, e := rawgraph.Sorted(r)
	if e != want || told(s) != told(api.Raw{}) {
		t.Errorf("%s: Sorted: %v, %v, want nothing, %v", what, told(s), e, want)
	}
}

// wantRight: Check finds nothing, Sorted tells the graph.
func wantRight(t *testing.T, what string, r api.Raw) api.Raw {
	t.Helper()
	if place, e := rawgraph.Check(r); place != (api.Place{}) || e != api.OK {
		t.Errorf("%s: Check: %v, %v, want zeros, OK", what, place, e)
	}
	s, e := rawgraph.Sorted(r)
	if e != api.OK {
		t.Errorf("%s: Sorted: %v, want OK", what, e)
	}
	return s
}

// copied is a graph in memory of its own.
func copied(r api.Raw) api.Raw {
	r.NodeTypes, r.EdgeTypes = copiedTypes(r.NodeTypes), copiedTypes(r.EdgeTypes)
	r.Nodes, r.Edges = slices.Clone(r.Nodes), slices.Clone(r.Edges)
	for i := range r.Nodes {
		r.Nodes[i].Props = slices.Clone(r.Nodes[i].Props)
	}
	for i := range r.Edges {
		r.Edges[i].Props = slices.Clone(r.Edges[i].Props)
	}
	return r
}

func copiedTypes(l []api.TypeDecl) []api.TypeDecl {
	l = slices.Clone(l)
	for i := range l {
		l[i].Props = slices.Clone(l[i].Props)
	}
	return l
}
