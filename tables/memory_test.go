package tables_test

import (
	"testing"
	"unsafe"

	"portolan/api"
	"portolan/tables"
)

// P3: what is handed in stands as it was, with its spare room, be it loaded or refused.
func TestHandedInStands(t *testing.T) {
	wrong := graph()
	wrong.Edges[5].To = 6
	for _, r := range []api.Raw{{}, graph(), graphInOrder(), wrong} {
		r = roomy(r)
		was := toldRaw(opened(r))
		if g, _, _ := tables.Load(r); g != nil {
			answers(g)
		}
		want(t, "what was handed in", toldRaw(opened(r)), was)
	}
}

// P3: what is handed in is not kept: a graph stays as it is when that changes.
func TestHandedInSpoilt(t *testing.T) {
	r := roomy(graph())
	g := loaded(t, r)
	was := answers(g)
	spoil(r)
	wantAnswers(t, "what was handed in, spoilt", answers(g), was)
	wantAnswers(t, "and held against another one", answers(g), answers(loaded(t, graph())))
}

// P3: what is handed out is the caller's own, with its spare room: a graph stays as it is, and so does what was handed in.
func TestHandedOutSpoilt(t *testing.T) {
	r := roomy(graph())
	in := toldRaw(opened(r))
	g := loaded(t, r)
	was := answers(g)
	for range 2 {
		spoil(g.Raw())
		spoil(api.Raw{NodeTypes: g.NodeTypes(), EdgeTypes: g.EdgeTypes()})
		for of := -2; of < 6; of++ {
			spoilt(g.OfType(of), 999)
		}
		for i := range g.Nodes() {
			for _, name := range names() {
				spoilt(g.NodeProp(i, name).Path, 999)
				spoilt(g.EdgeProp(i, name).Path, 999)
			}
		}
		wantAnswers(t, "what was handed out, spoilt", answers(g), was)
	}
	want(t, "what was handed in", toldRaw(opened(r)), in)
}

// room is the memory of a list, from its first byte to behind its spare room.
type room struct{ from, to uintptr }

// taken is the room of a list, if it has any, behind others.
func taken[T any](l []T, others []room) []room {
	if cap(l) == 0 {
		return others
	}
	from := uintptr(unsafe.Pointer(unsafe.SliceData(l)))
	var one T
	return append(others, room{from, from + uintptr(cap(l))*unsafe.Sizeof(one)})
}

// rooms are those of all lists of a graph.
func rooms(r api.Raw) []room {
	var all []room
	change{
		types: func(l []api.TypeDecl) []api.TypeDecl { all = taken(l, all); return open(l)[:len(l)] },
		decls: func(l []api.PropDecl) []api.PropDecl { all = taken(l, all); return open(l)[:len(l)] },
		nodes: func(l []api.RawNode) []api.RawNode { all = taken(l, all); return open(l)[:len(l)] },
		edges: func(l []api.RawEdge) []api.RawEdge { all = taken(l, all); return open(l)[:len(l)] },
		props: func(l []api.PropValue) []api.PropValue { all = taken(l, all); return open(l)[:len(l)] },
		path:  func(l []int64) []int64 { all = taken(l, all); return open(l)[:len(l)] },
	}.of(r)
	return all
}

func wantApart(t *testing.T, all []room) {
	t.Helper()
	for i, a := range all {
		for _, b := range all[:i] {
			if a.from < b.to && b.from < a.to {
				t.Fatalf("two lists share memory: %v, %v", a, b)
			}
		}
	}
}

// P3: no two lists share memory, neither of one answer nor of two, nor with what was handed in, in which some share it.
func TestListsApart(t *testing.T) {
	shared := with("folk", integer(1), "name", text("a"), "port", truth(true))
	r := graph()
	for i := range r.Nodes {
		r.Nodes[i].Label, r.Nodes[i].Props = "Town", shared[:i%4]
	}
	r.NodeTypes[1].Props = r.NodeTypes[0].Props[:2]
	g := loaded(t, r)
	apart := rooms(g.Raw())
	want(t, "lists of Raw", len(apart) > 8, true)
	apart = append(apart, rooms(g.Raw())...)
	apart = append(apart, rooms(api.Raw{NodeTypes: g.NodeTypes(), EdgeTypes: g.EdgeTypes()})...)
	apart = append(apart, rooms(api.Raw{NodeTypes: g.NodeTypes(), EdgeTypes: g.EdgeTypes()})...)
	for of := -1; of < 5; of++ {
		apart = taken(g.OfType(of), taken(g.OfType(of), apart))
	}
	wantApart(t, apart)
	wantApart(t, append(apart, taken(r.Nodes, taken(r.Edges, taken(shared, taken(r.NodeTypes[0].Props, nil))))...))
}

// P3: what was told stays as it is, whatever is asked or loaded afterwards; two graphs of one do not hang on each other.
func TestToldStays(t *testing.T) {
	r := graph()
	g, h := loaded(t, r), loaded(t, r)
	raw, of, types := g.Raw(), g.OfType(0), g.NodeTypes()
	must := answers(g)
	r.Nodes, r.Edges = r.Nodes[1:2], nil
	other := loaded(t, r)
	wantAnswers(t, "the one", answers(g), must)
	wantAnswers(t, "the other one", answers(h), must)
	want(t, "a third one", toldRaw(other.Raw()), toldRaw(api.Raw{NodeTypes: r.NodeTypes, EdgeTypes: r.EdgeTypes, Nodes: r.Nodes}))
	spoil(g.Raw())
	g.OfType(1)
	want(t, "Raw that was told", toldRaw(raw), toldRaw(graphInOrder()))
	wantPlaces(t, "OfType that was told", of, 0, 2, 4)
	want(t, "NodeTypes that were told", toldRaw(api.Raw{NodeTypes: types}), toldRaw(api.Raw{NodeTypes: graph().NodeTypes}))
	wantAnswers(t, "asked again", answers(g), must)
}
