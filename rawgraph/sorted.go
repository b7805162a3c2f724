package rawgraph

import (
	"cmp"
	"slices"

	"portolan/api"
)

// copyTypes is the same types in memory of their own, their properties too.
func copyTypes(types []api.TypeDecl) []api.TypeDecl {
	out := slices.Clone(types)
	for i := range out {
		out[i].Props = slices.Clone(out[i].Props)
	}
	return out
}

func sortNodes(types []api.TypeDecl, nodes []api.RawNode) []api.RawNode {
	out := slices.Clone(nodes)
	slices.SortFunc(out, func(a, b api.RawNode) int { return cmp.Compare(a.ID, b.ID) })
	for i, n := range out {
		out[i].Props = sortProps(declaredBy(types, n.Label), n.Props)
	}
	return out
}

func sortEdges(types []api.TypeDecl, edges []api.RawEdge) []api.RawEdge {
	out := slices.Clone(edges)
	slices.SortFunc(out, func(a, b api.RawEdge) int { return cmp.Compare(a.ID, b.ID) })
	for i, d := range out {
		out[i].Props = sortProps(declaredBy(types, d.Label), d.Props)
	}
	return out
}

// sortProps are the properties that are not null, in the order in which they are declared, in memory of their own.
func sortProps(declared []api.PropDecl, props []api.PropValue) []api.PropValue {
	var out []api.PropValue
	for _, d := range declared {
		at := slices.IndexFunc(props, func(p api.PropValue) bool { return p.Name == d.Name })
		if at < 0 || props[at].Value.Kind == api.Null {
			continue
		}
		p := props[at]
		// No kind that may be declared has a path; but the empty one that was handed in may have spare room.
		p.Value.Path = nil
		out = append(out, p)
	}
	return out
}
