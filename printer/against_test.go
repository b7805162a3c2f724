package printer_test

import (
	"math/rand"
	"testing"

	"portolan/api"
)

// drawer draws trees: pick tells a number from 0 on, below another one.
type drawer struct {
	pick func(below int) int
	odd  int // one of so many things is not as it should be; 0: none
	room int // how many expressions may come yet
}

func drawerOf(seed int64, odd int) *drawer {
	return &drawer{pick: rand.New(rand.NewSource(seed)).Intn, odd: odd}
}

func (d *drawer) isOdd() bool { return d.odd > 0 && d.pick(d.odd) == 0 }

func one[T any](d *drawer, l ...T) T { return l[d.pick(len(l))] }

func (d *drawer) name() string {
	if d.isOdd() {
		return one(d, append(noNames(), "")...)
	}
	return one(d, "a", "b", "x", "nulls", "été", "_1", many(32, "n"))
}

func (d *drawer) nameOrNone() string {
	if d.pick(2) == 0 {
		return ""
	}
	return d.name()
}

func (d *drawer) value() api.Value {
	if d.isOdd() {
		return api.Value{Kind: api.Kind(d.pick(9) - 1), Bool: d.pick(4) == 0, Int: int64(d.pick(5) - 2), Text: one(d, "", "x", "\xff"), Path: one(d, nil, []int64{}, []int64{1})}
	}
	return one(d, api.Value{}, api.Value{Kind: api.Bool}, api.Value{Kind: api.Bool, Bool: true}, api.Value{Kind: api.Int}, api.Value{Kind: api.Int, Int: maxInt}, api.Value{Kind: api.Int, Int: 7},
		api.Value{Kind: api.Text}, api.Value{Kind: api.Text, Text: "it's"}, api.Value{Kind: api.Text, Text: "\\n\n' OR '"}, api.Value{Kind: api.Text, Text: "("})
}

// expr draws an expression; where there is no room any more, one without Kids.
func (d *drawer) expr() api.Expr {
	d.room--
	op := one(d, api.OpLit, api.OpVar, api.OpProp, api.OpCountAll)
	if d.room > 0 && d.pick(5) > 0 {
		op = api.Op(1 + d.pick(26))
	}
	x := api.Expr{Op: op}
	kids := kidsOf(op)
	if d.isOdd() {
		kids = max(0, kids+1-2*d.pick(2))
	}
	for range kids {
		x.Kids = append(x.Kids, d.expr())
	}
	if op == api.OpVar || op == api.OpProp || d.isOdd() {
		x.Name = d.name()
	}
	if op == api.OpProp || d.isOdd() {
		x.Prop = d.name()
	}
	if op == api.OpLit || d.isOdd() {
		x.Value = d.value()
	}
	if d.isOdd() {
		x.Op = api.Op(d.pick(31) - 2)
	}
	return x
}

func (d *drawer) wholeExpr() api.Expr {
	d.room = d.pick(20)
	return d.expr()
}

func (d *drawer) edge() api.EdgePat {
	e := api.EdgePat{Var: d.nameOrNone(), Label: d.nameOrNone(), Back: d.pick(2) == 0, Mode: api.EdgeMode(d.pick(3))}
	switch e.Mode {
	case api.EdgeTrail:
		e.Min = d.pick(maxTrail + 1)
		e.Max = e.Min + d.pick(maxTrail+1-e.Min)
	case api.EdgeShort:
		e.Max = 1 + d.pick(maxTrail)
	}
	if d.isOdd() {
		e.Mode, e.Min, e.Max = api.EdgeMode(d.pick(5)-1), d.pick(11)-1, d.pick(11)-1
	}
	return e
}

func (d *drawer) pattern() api.Pattern {
	p := api.Pattern{Nodes: []api.NodePat{{Var: d.nameOrNone(), Label: d.nameOrNone()}}}
	for range d.pick(4) {
		p.Edges = append(p.Edges, d.edge())
		p.Nodes = append(p.Nodes, api.NodePat{Var: d.nameOrNone(), Label: d.nameOrNone()})
	}
	if d.isOdd() {
		p.Nodes = p.Nodes[:d.pick(len(p.Nodes)+1)]
	}
	if d.isOdd() {
		p.Edges = p.Edges[:d.pick(len(p.Edges)+1)]
	}
	return p
}

// times does something so many times: once at least, but where it is odd.
func (d *drawer) times(most int, do func()) {
	n := 1 + d.pick(most)
	if d.isOdd() {
		n = 0
	}
	for range n {
		do()
	}
}

func (d *drawer) query() api.Query {
	q := api.Query{Distinct: d.pick(2) == 0, Limit: one(d, -1, 0, 1, 77, maxLimit)}
	if d.isOdd() {
		q.Limit = one(d, -2, maxLimit+1, -1<<63, 1<<63-1)
	}
	d.times(3, func() { q.Patterns = append(q.Patterns, d.pattern()) })
	for range d.pick(2) {
		q.Where = append(q.Where, d.wholeExpr())
	}
	if d.isOdd() {
		q.Where = append(q.Where, d.wholeExpr())
	}
	d.times(3, func() { q.Items = append(q.Items, api.Item{Expr: d.wholeExpr(), Name: d.nameOrNone()}) })
	for range d.pick(4) {
		q.Keys = append(q.Keys, api.Key{Name: d.name(), Desc: d.pick(2) == 0})
	}
	return q
}

// P9.1: drawn expressions, right ones, and such with something that is not.
func TestAgainstModel(t *testing.T) {
	for _, odd := range []int{0, 10, 40, 100} {
		d, count := drawerOf(int64(91+odd), odd), make(map[api.Errno]int)
		for range 8000 {
			count[asModel(t, d.wholeExpr())]++
		}
		if count[api.OK] < 500 || (count[api.ErrSyntaxTree] < 500) == (odd > 0) {
			t.Errorf("one of %d is odd: %v", odd, count)
		}
	}
}

// P9.1: the same of queries.
func TestQueriesAgainstModel(t *testing.T) {
	for _, odd := range []int{0, 40, 150} {
		d, count := drawerOf(int64(92+odd), odd), make(map[api.Errno]int)
		for range 3000 {
			count[asModelQuery(t, d.query())]++
		}
		if count[api.OK] < 100 || (count[api.ErrSyntaxTree] < 500) == (odd > 0) {
			t.Errorf("one of %d is odd: %v", odd, count)
		}
	}
}

// P9.1: all Ops within all others within all others, in each place.
func TestAllOfThree(t *testing.T) {
	for _, outer := range allOps() {
		for i := range kidsOf(outer) {
			for _, middle := range allOps() {
				for j := range kidsOf(middle) {
					for _, inner := range allOps() {
						x, in := sample(outer), sample(middle)
						in.Kids[j] = sample(inner)
						x.Kids[i] = in
						if e := asModel(t, x); e != api.OK {
							t.Fatalf("%s: %v", short(x), e)
						}
					}
				}
			}
		}
	}
}

// P9.1: drawn expressions that are about as deep as they may be.
func TestDeepAgainstModel(t *testing.T) {
	d, count := drawerOf(93, 0), make(map[api.Errno]int)
	for range 3000 {
		x := d.wholeExpr()
		for range 20 + d.pick(50) {
			op := api.Op(4 + d.pick(22))
			if d.pick(3) > 0 {
				op = one(d, api.OpNot, api.OpNeg, api.OpSum, api.OpSub, api.OpEq)
			}
			around := sample(op)
			around.Kids[d.pick(len(around.Kids))] = x
			x = around
		}
		count[asModel(t, x)]++
	}
	if count[api.OK] < 500 || count[api.ErrSyntaxTree] < 500 {
		t.Errorf("what came: %v", count)
	}
}

// fuzzed draws what bytes say.
func fuzzed(b []byte) *drawer {
	return &drawer{odd: 16, pick: func(below int) int {
		if len(b) == 0 {
			return below - 1
		}
		n := int(b[0]) % below
		b = b[1:]
		return n
	}}
}

// Any tree is as the model has it.
func FuzzPrint(f *testing.F) {
	r := rand.New(rand.NewSource(94))
	for n := range 30 {
		b := make([]byte, n*10)
		r.Read(b)
		f.Add(b)
	}
	f.Fuzz(func(t *testing.T, b []byte) {
		if len(b) < 1000 {
			asModel(t, fuzzed(b).wholeExpr())
			asModelQuery(t, fuzzed(b).query())
		}
	})
}
