package rawgraph

import (
	"slices"

	"portolan/api"
	"portolan/value"
)

// seen is what is known of a part of records, as far as it has been gone through.
type seen struct {
	types []api.TypeDecl
	ids   map[int64]struct{}
}

func newSeen(types []api.TypeDecl) *seen {
	return &seen{types: types, ids: make(map[int64]struct{})}
}

func (s *seen) has(id int64) bool {
	_, there := s.ids[id]
	return there
}

// take is what may be wrong with a record ahead of its ends and properties; one that is right so far is known from then on.
func (s *seen) take(id int64, label string) api.Errno {
	if id < 0 || id > api.MaxID {
		return api.ErrRawID
	}
	if s.has(id) {
		return api.ErrRawTwice
	}
	if typeAt(s.types, label) < 0 {
		return api.ErrRawLabel
	}
	s.ids[id] = struct{}{}
	return api.OK
}

// checkType is what is wrong with the type at a place, those ahead of it being right.
func checkType(types []api.TypeDecl, at int) api.Errno {
	if at >= api.MaxTypes {
		return api.ErrTooMany
	}
	d := types[at]
	if !Name(d.Label) {
		return api.ErrRawName
	}
	if typeAt(types[:at], d.Label) >= 0 {
		return api.ErrRawTwice
	}
	if len(d.Props) > api.MaxProps {
		return api.ErrTooMany
	}
	for i, p := range d.Props {
		if !Name(p.Name) || propAt(d.Props[:i], p.Name) >= 0 || !mayDeclare(p.Kind) {
			return api.ErrRawProp
		}
	}
	return api.OK
}

func checkNode(nodes *seen, n api.RawNode) api.Errno {
	if e := nodes.take(n.ID, n.Label); e != api.OK {
		return e
	}
	return checkProps(declaredBy(nodes.types, n.Label), n.Props)
}

// checkEdge asks for the ends among all nodes: these have been gone through ahead of the edges.
func checkEdge(edges, nodes *seen, d api.RawEdge) api.Errno {
	if e := edges.take(d.ID, d.Label); e != api.OK {
		return e
	}
	if !nodes.has(d.From) || !nodes.has(d.To) {
		return api.ErrRawEnd
	}
	return checkProps(declaredBy(edges.types, d.Label), d.Props)
}

// checkProps is what is wrong with a record's properties. One that is null stands among them as the others do: it must be declared, and may not stand twice.
func checkProps(declared []api.PropDecl, props []api.PropValue) api.Errno {
	var stood [api.MaxProps]bool
	for _, p := range props {
		at := propAt(declared, p.Name)
		if at < 0 || stood[at] || !mayHold(declared[at].Kind, p.Value) {
			return api.ErrRawValue
		}
		stood[at] = true
	}
	return api.OK
}

// mayDeclare tells whether a property may be declared to be of a kind.
func mayDeclare(k api.Kind) bool { return k == api.Bool || k == api.Int || k == api.Text }

// mayHold tells whether a property that was declared to be of a kind may be that.
func mayHold(k api.Kind, v api.Value) bool {
	return value.Right(v) && (v.Kind == api.Null || v.Kind == k)
}

// typeAt is the place of the type of that label, -1 if there is none. There are MaxTypes at most, so that a plain search will do; likewise with propAt.
func typeAt(types []api.TypeDecl, label string) int {
	return slices.IndexFunc(types, func(d api.TypeDecl) bool { return d.Label == label })
}

// propAt is the place of the property of that name, -1 if there is none.
func propAt(declared []api.PropDecl, name string) int {
	return slices.IndexFunc(declared, func(p api.PropDecl) bool { return p.Name == name })
}

// declaredBy are the properties that a label, which must be one of the types', declares.
func declaredBy(types []api.TypeDecl, label string) []api.PropDecl {
	return types[typeAt(types, label)].Props
}
