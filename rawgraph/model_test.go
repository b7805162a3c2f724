package rawgraph_test

import (
	"cmp"
	"math/rand"
	"slices"
	"testing"

	"portolan/api"
	"portolan/rawgraph"
	"portolan/value"
)

// drawn makes graphs, of few names and IDs, so that many of them are told twice.
type drawn struct{ *rand.Rand }

// one is one of a list; seldom one of those that are wrong.
func one[T any](d drawn, right, wrong []T) T {
	if d.Intn(60) == 0 {
		return wrong[d.Intn(len(wrong))]
	}
	return right[d.Intn(len(right))]
}

func (d drawn) types() []api.TypeDecl {
	var l []api.TypeDecl
	for i := range d.Intn(4) {
		t := declared(one(d, []string{"ABCD"[i : i+1]}, []string{"", "1", "A", "×"}))
		for k := range d.Intn(4) {
			t.Props = append(t.Props, api.PropDecl{Name: one(d, []string{"xyzw"[k : k+1]}, []string{"", "x", "é", "1"}), Kind: one(d, []api.Kind{api.Bool, api.Int, api.Text}, []api.Kind{api.Null, api.Path, api.Fault, -1})})
		}
		l = append(l, t)
	}
	return l
}

// record is an ID, which mostly is that number, a label of the types, and properties of it.
func (d drawn) record(id int64, types []api.TypeDecl) (int64, string, []api.PropValue) {
	id = one(d, []int64{id}, []int64{0, 1, 2, -1, api.MaxID, api.MaxID + 1})
	if len(types) == 0 {
		return id, "A", nil
	}
	of := types[d.Intn(len(types))]
	var l []api.PropValue
	for _, k := range d.Perm(len(of.Props)) {
		p := of.Props[k]
		right := map[api.Kind]api.Value{api.Bool: truth(d.Intn(2) == 0), api.Int: integer(d.Int63()), api.Text: text("t")}[p.Kind]
		if d.Intn(4) > 0 {
			l = append(l, prop(one(d, []string{p.Name}, []string{"x", "v", ""}), one(d, []api.Value{right, null()}, []api.Value{integer(1), truth(true), {Kind: api.Fault}, text("\xff")})))
		}
	}
	return id, one(d, []string{of.Label}, []string{"A", "B", "Z"}), l
}

func (d drawn) graph() api.Raw {
	r := api.Raw{NodeTypes: d.types(), EdgeTypes: d.types()}
	if len(r.NodeTypes) > 0 {
		for _, id := range d.Perm(d.Intn(8)) {
			var n api.RawNode
			n.ID, n.Label, n.Props = d.record(int64(id), r.NodeTypes)
			r.Nodes = append(r.Nodes, n)
		}
	}
	if len(r.EdgeTypes) > 0 && len(r.Nodes) > 0 {
		for _, id := range d.Perm(d.Intn(8)) {
			var e api.RawEdge
			e.ID, e.Label, e.Props = d.record(int64(id), r.EdgeTypes)
			e.From, e.To = one(d, r.Nodes, []api.RawNode{{ID: -1}, {ID: 9}}).ID, one(d, r.Nodes, []api.RawNode{{ID: -1}, {ID: 9}}).ID
			r.Edges = append(r.Edges, e)
		}
	}
	return r
}

// question is something that may be so of a record, and the error that it is then.
type question struct {
	is bool
	e  api.Errno
}

// first is the error of the first question that is so.
func first(l ...question) api.Errno {
	for _, q := range l {
		if q.is {
			return q.e
		}
	}
	return api.OK
}

func plainType(l []api.TypeDecl, at int) api.Errno {
	d := l[at]
	wrong := slices.ContainsFunc(d.Props, func(p api.PropDecl) bool {
		alike := 0
		for _, q := range d.Props {
			if q.Name == p.Name {
				alike++
			}
		}
		return !rawgraph.Name(p.Name) || alike != 1 || !slices.Contains([]api.Kind{api.Bool, api.Int, api.Text}, p.Kind)
	})
	ahead := slices.ContainsFunc(l[:at], func(x api.TypeDecl) bool { return x.Label == d.Label })
	return first(question{at >= 64, api.ErrTooMany}, question{!rawgraph.Name(d.Label), api.ErrRawName}, question{ahead, api.ErrRawTwice}, question{len(d.Props) > 32, api.ErrTooMany}, question{wrong, api.ErrRawProp})
}

// plainRecord is what is wrong with a record; ends: are its ends wrong?
func plainRecord(id int64, label string, l []api.PropValue, ahead []int64, types []api.TypeDecl, ends bool) api.Errno {
	at := slices.IndexFunc(types, func(d api.TypeDecl) bool { return d.Label == label })
	values := false
	for i, p := range l {
		values = values || at < 0 || !value.Right(p.Value)
		values = values || !slices.ContainsFunc(types[at].Props, func(d api.PropDecl) bool {
			return d.Name == p.Name && (p.Value.Kind == api.Null || p.Value.Kind == d.Kind)
		})
		values = values || slices.ContainsFunc(l[:i], func(q api.PropValue) bool { return q.Name == p.Name })
	}
	return first(question{id < 0 || id > 1<<40, api.ErrRawID}, question{slices.Contains(ahead, id), api.ErrRawTwice}, question{at < 0, api.ErrRawLabel}, question{ends, api.ErrRawEnd}, question{values, api.ErrRawValue})
}

// plainCheck is Check, each record held against all of those ahead.
func plainCheck(r api.Raw) (api.Place, api.Errno) {
	for i := range r.NodeTypes {
		if e := plainType(r.NodeTypes, i); e != api.OK {
			return api.Place{Part: 1, At: i}, e
		}
	}
	for i := range r.EdgeTypes {
		if e := plainType(r.EdgeTypes, i); e != api.OK {
			return api.Place{Part: 2, At: i}, e
		}
	}
	var nodes, edges []int64
	for i, n := range r.Nodes {
		if e := plainRecord(n.ID, n.Label, n.Props, nodes, r.NodeTypes, false); e != api.OK {
			return api.Place{Part: 3, At: i}, e
		}
		nodes = append(nodes, n.ID)
	}
	for i, d := range r.Edges {
		ends := !slices.Contains(nodes, d.From) || !slices.Contains(nodes, d.To)
		if e := plainRecord(d.ID, d.Label, d.Props, edges, r.EdgeTypes, ends); e != api.OK {
			return api.Place{Part: 4, At: i}, e
		}
		edges = append(edges, d.ID)
	}
	return api.Place{}, api.OK
}

// plainProps are those that are not null, as the type of that label declares them.
func plainProps(types []api.TypeDecl, label string, l []api.PropValue) []api.PropValue {
	l = slices.DeleteFunc(slices.Clone(l), func(p api.PropValue) bool { return p.Value.Kind == api.Null })
	for _, d := range types {
		place := func(p api.PropValue) int {
			return slices.IndexFunc(d.Props, func(q api.PropDecl) bool { return q.Name == p.Name })
		}
		if d.Label == label {
			slices.SortFunc(l, func(a, b api.PropValue) int { return cmp.Compare(place(a), place(b)) })
		}
	}
	return l
}

// plainSorted is Sorted of a graph that may be.
func plainSorted(r api.Raw) api.Raw {
	r = copied(r)
	slices.SortFunc(r.Nodes, func(a, b api.RawNode) int { return cmp.Compare(a.ID, b.ID) })
	slices.SortFunc(r.Edges, func(a, b api.RawEdge) int { return cmp.Compare(a.ID, b.ID) })
	for i, n := range r.Nodes {
		r.Nodes[i].Props = plainProps(r.NodeTypes, n.Label, n.Props)
	}
	for i, e := range r.Edges {
		r.Edges[i].Props = plainProps(r.EdgeTypes, e.Label, e.Props)
	}
	return r
}

// P4.1, P4.2, P4.3: drawn graphs, right and wrong ones; each error comes up.
func TestAgainstPlainOnes(t *testing.T) {
	d := drawn{rand.New(rand.NewSource(11))}
	errors := make(map[api.Errno]int)
	for range 20000 {
		r := d.graph()
		was := toldWithRoom(r)
		place, e := plainCheck(r)
		errors[e]++
		if e != api.OK {
			wantRefused(t, was, r, place.Part, place.At, e)
			continue
		}
		want := plainSorted(r)
		s := wantRight(t, was, r)
		wantGraph(t, "drawn", s, want)
		wantGraph(t, "drawn, sorted again", wantRight(t, was, s), want)
		wantApart(t, r, s)
		if toldWithRoom(r) != was {
			t.Errorf("what was handed in has changed:\n%s\nwant\n%s", toldWithRoom(r), was)
		}
		d.Shuffle(len(r.Nodes), func(i, j int) { r.Nodes[i], r.Nodes[j] = r.Nodes[j], r.Nodes[i] })
		d.Shuffle(len(r.Edges), func(i, j int) { r.Edges[i], r.Edges[j] = r.Edges[j], r.Edges[i] })
		wantGraph(t, "drawn, in another order", wantRight(t, was, r), want)
		left := func(e api.RawEdge) bool { return e.ID%2 == 0 }
		r.Edges, want.Edges = slices.DeleteFunc(r.Edges, left), slices.DeleteFunc(want.Edges, left)
		wantGraph(t, "drawn, edges left out", wantRight(t, was, r), want)
	}
	for _, e := range []api.Errno{api.OK, api.ErrRawName, api.ErrRawTwice, api.ErrRawProp, api.ErrRawID, api.ErrRawLabel, api.ErrRawEnd, api.ErrRawValue} {
		if errors[e] < 50 {
			t.Errorf("%v was drawn %d times alone", e, errors[e])
		}
	}
}

// P4.1: many records, in no order, of as many types as may be.
func TestManyRecords(t *testing.T) {
	const count = 100000
	r := api.Raw{NodeTypes: types(64), EdgeTypes: types(64)}
	for i := range int64(count) {
		id := i * 7919 % count
		r.Nodes = append(r.Nodes, api.RawNode{ID: id, Label: "T63"})
		r.Edges = append(r.Edges, api.RawEdge{ID: id, Label: "T0", From: i, To: id})
	}
	s := wantRight(t, "many records", r)
	for i := range s.Nodes {
		if s.Nodes[i].ID != int64(i) || s.Edges[i].ID != int64(i) || s.Edges[i].To != int64(i) {
			t.Fatalf("at %d: %v, %v", i, s.Nodes[i], s.Edges[i])
		}
	}
	r.Nodes[count-1].ID = r.Nodes[0].ID
	wantRefused(t, "the last one again", r, api.PartNodes, count-1, api.ErrRawTwice)
}
