package printer

import (
	"strconv"

	"portolan/api"
	"portolan/lex"
	"portolan/rawgraph"
)

func (t *text) query(q api.Query) bool {
	if len(q.Where) > 1 || q.Limit < -1 || q.Limit > api.MaxLimit {
		goto wrong
	}
	t.write("MATCH ")
	if !listed(t, q.Patterns, t.pattern) {
		goto wrong
	}
	for _, x := range q.Where {
		t.write(" WHERE ")
		if !t.expr(x) {
			goto wrong
		}
	}
	t.write(" RETURN ")
	if q.Distinct {
		t.write("DISTINCT ")
	}
	if !listed(t, q.Items, t.item) {
		goto wrong
	}
	if len(q.Keys) > 0 {
		t.write(" ORDER BY ")
		if !listed(t, q.Keys, t.key) {
			goto wrong
		}
	}
	if q.Limit >= 0 {
		t.write(" LIMIT ", strconv.Itoa(q.Limit))
	}
	return true
wrong:
	return false
}

func (t *text) pattern(p api.Pattern) bool {
	if len(p.Nodes) != len(p.Edges)+1 {
		return false
	}
	for i, node := range p.Nodes {
		if i > 0 && !t.edge(p.Edges[i-1]) || !t.node(node) {
			return false
		}
	}
	return true
}

func (t *text) node(n api.NodePat) bool {
	t.write("(")
	right := t.nameAndLabel(n.Var, n.Label)
	t.write(")")
	return right
}

func (t *text) edge(e api.EdgePat) bool {
	ahead, behind := "-[", "]->"
	if e.Back {
		ahead, behind = "<-[", "]-"
	}
	t.write(ahead)
	right := t.nameAndLabel(e.Var, e.Label) && t.length(e)
	t.write(behind)
	return right
}

// length writes how many edges one of a pattern stands for.
func (t *text) length(e api.EdgePat) bool {
	switch e.Mode {
	case api.EdgeOne:
		return e.Min == 0 && e.Max == 0
	case api.EdgeTrail:
		t.write("*", strconv.Itoa(e.Min), "..", strconv.Itoa(e.Max))
		return 0 <= e.Min && e.Min <= e.Max && e.Max <= api.MaxTrail
	case api.EdgeShort:
		t.write("*SHORTEST ", strconv.Itoa(e.Max))
		return e.Min == 0 && 1 <= e.Max && e.Max <= api.MaxTrail
	}
	return false
}

// nameAndLabel writes what nodes and edges begin with; each of the two may be left out.
func (t *text) nameAndLabel(name, label string) bool {
	t.write(name)
	if label != "" {
		t.write(":", label)
	}
	return nameOrNone(name) && nameOrNone(label)
}

func (t *text) item(i api.Item) bool {
	right := t.expr(i.Expr) && nameOrNone(i.Name)
	if i.Name != "" {
		t.write(" AS ", i.Name)
	}
	return right
}

func (t *text) key(k api.Key) bool {
	t.write(k.Name)
	if k.Desc {
		t.write(" DESC")
	}
	return isName(k.Name)
}

// isName: is it a name that is read as one? A key is not.
func isName(s string) bool { return rawgraph.Name(s) && lex.Key(s) == "" }

func nameOrNone(s string) bool { return s == "" || isName(s) }
