package syntax

import "portolan/api"

// opWord is a key or a sign, and what it makes of the expressions beside it.
type opWord struct {
	word string
	op   api.Op
}

// of is an expression of others.
func of(op api.Op, kids ...api.Expr) api.Expr { return api.Expr{Op: op, Kids: kids} }

func literal(v api.Value) api.Expr { return api.Expr{Op: api.OpLit, Value: v} }

func (r *reader) expr() api.Expr { return r.level(opWord{"OR", api.OpOr})(r.both) }

func (r *reader) both() api.Expr { return r.level(opWord{"AND", api.OpAnd})(r.deny) }

func (r *reader) deny() api.Expr {
	if r.isNext("NOT") {
		return of(api.OpNot, r.deeper(r.deny))
	}
	return r.test()
}

// test reads one test at most: there is no level on which tests stand behind one another.
func (r *reader) test() api.Expr {
	left := r.sum()
	if r.pass("IS") {
		op := api.OpIsNull
		if r.pass("NOT") {
			op = api.OpNotNull
		}
		r.must("NULL")
		return of(op, left)
	}
	op := r.passOne(opWord{"=", api.OpEq}, opWord{"<>", api.OpNe}, opWord{"<", api.OpLt},
		opWord{"<=", api.OpLe}, opWord{">", api.OpGt}, opWord{">=", api.OpGe})
	if op == 0 {
		return left
	}
	return of(op, left, r.sum())
}

func (r *reader) sum() api.Expr {
	return r.level(opWord{"+", api.OpAdd}, opWord{"-", api.OpSub})(r.prod)
}

func (r *reader) prod() api.Expr {
	return r.level(opWord{"*", api.OpMul}, opWord{"/", api.OpDiv}, opWord{"%", api.OpRest})(r.minus)
}

func (r *reader) minus() api.Expr {
	if r.isNext("-") {
		return of(api.OpNeg, r.deeper(r.minus))
	}
	return r.plain()
}

func (r *reader) plain() api.Expr {
	next := r.next()
	switch next.Kind {
	case api.TokInt:
		r.take()
		return literal(api.Value{Kind: api.Int, Int: next.Int})
	case api.TokText:
		r.take()
		return literal(api.Value{Kind: api.Text, Text: next.Text})
	case api.TokName:
		return r.named()
	case api.TokKey:
		return r.keyed()
	}
	return r.inside(r.expr)
}

func (r *reader) named() api.Expr {
	name := r.mustName()
	if !r.pass(".") {
		return api.Expr{Op: api.OpVar, Name: name}
	}
	return api.Expr{Op: api.OpProp, Name: name, Prop: r.mustName()}
}

// keyed reads what begins with a key.
func (r *reader) keyed() api.Expr {
	switch {
	case r.pass("TRUE"):
		return literal(api.Value{Kind: api.Bool, Bool: true})
	case r.pass("FALSE"):
		return literal(api.Value{Kind: api.Bool})
	case r.pass("NULL"):
		return literal(api.Value{})
	case r.pass("COUNT"):
		return r.inside(r.counted)
	}
	op := r.passOne(opWord{"LENGTH", api.OpLength}, opWord{"SUM", api.OpSum}, opWord{"MIN", api.OpMin}, opWord{"MAX", api.OpMax})
	if op == 0 {
		panic(r.refusal(api.ErrSyntax))
	}
	return of(op, r.inside(r.expr))
}

// counted reads what COUNT has inside. No expression begins with a star.
func (r *reader) counted() api.Expr {
	if r.pass("*") {
		return of(api.OpCountAll)
	}
	return of(api.OpCount, r.expr())
}

// inside reads what stands between `(` and `)`.
func (r *reader) inside(one func() api.Expr) api.Expr {
	if !r.isNext("(") {
		panic(r.refusal(api.ErrSyntax))
	}
	x := r.deeper(one)
	r.must(")")
	return x
}

// deeper takes the next word, and reads what is a part of its expression. How deep that is has a bound, so that no text can make the rules call one another without end.
func (r *reader) deeper(one func() api.Expr) api.Expr {
	if r.deep == api.MaxDeep {
		panic(r.refusal(api.ErrSyntaxDeep))
	}
	r.take()
	r.deep++
	x := one()
	r.deep--
	return x
}

// passOne takes the next word, if it is one of these, and tells what it makes; 0: it is none of them.
func (r *reader) passOne(words ...opWord) api.Op {
	for _, w := range words {
		if r.pass(w.word) {
			return w.op
		}
	}
	return 0
}

// level makes the reader of a level whose parts have one of these words between, and are put together from the left.
func (r *reader) level(words ...opWord) func(part func() api.Expr) api.Expr {
	return func(part func() api.Expr) api.Expr {
		x := part()
		for {
			op := r.passOne(words...)
			if op == 0 {
				return x
			}
			x = of(op, x, part())
		}
	}
}
