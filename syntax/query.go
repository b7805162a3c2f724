package syntax

import "portolan/api"

func (r *reader) query() api.Query {
	q := api.Query{Limit: -1}
	r.must("MATCH")
	q.Patterns = listed(r, r.pattern)
	if r.pass("WHERE") {
		q.Where = []api.Expr{r.expr()}
	}
	r.must("RETURN")
	q.Distinct = r.pass("DISTINCT")
	q.Items = listed(r, r.item)
	if r.isNext("ORDER") {
		r.must("ORDER", "BY")
		q.Keys = listed(r, r.key)
	}
	if r.pass("LIMIT") {
		q.Limit = r.mustNumber(0, api.MaxLimit)
	}
	return q
}

func (r *reader) pattern() api.Pattern {
	p := api.Pattern{Nodes: []api.NodePat{r.node()}}
	for r.isNext("-", "<") {
		p.Edges = append(p.Edges, r.edge())
		p.Nodes = append(p.Nodes, r.node())
	}
	return p
}

func (r *reader) node() api.NodePat {
	r.must("(")
	name, label := r.nameAndLabel()
	r.must(")")
	return api.NodePat{Var: name, Label: label}
}

func (r *reader) edge() api.EdgePat {
	back := r.pass("<")
	r.must("-", "[")
	edge := r.body()
	r.must("]", "-")
	if !back {
		r.must(">")
	}
	edge.Back = back
	return edge
}

// body reads what stands in an edge's brackets.
func (r *reader) body() api.EdgePat {
	name, label := r.nameAndLabel()
	edge := api.EdgePat{Var: name, Label: label}
	switch {
	case !r.pass("*"):
		edge.Mode = api.EdgeOne
	case r.pass("SHORTEST"):
		edge.Mode = api.EdgeShort
		edge.Max = r.mustNumber(1, api.MaxTrail)
	default:
		edge.Mode = api.EdgeTrail
		edge.Min = r.mustNumber(0, api.MaxTrail)
		r.must("..")
		edge.Max = r.mustNumber(edge.Min, api.MaxTrail)
	}
	return edge
}

// nameAndLabel reads what nodes and edges begin with; each of the two may be left out.
func (r *reader) nameAndLabel() (string, string) {
	name := r.passName()
	if !r.pass(":") {
		return name, ""
	}
	return name, r.mustName()
}

func (r *reader) item() api.Item {
	item := api.Item{Expr: r.expr()}
	if r.pass("AS") {
		item.Name = r.mustName()
	}
	return item
}

func (r *reader) key() api.Key {
	key := api.Key{Name: r.mustName()}
	if !r.pass("ASC") {
		key.Desc = r.pass("DESC")
	}
	return key
}
