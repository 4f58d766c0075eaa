package format

import "sepal/api"

func (w *writer) stmts(l []api.Stmt) {
	lines(w, l, w.stmt)
}

func (w *writer) stmt(s api.Stmt) {
	switch s.Kind {
	case api.If:
		w.put("if ")
		parenthesized(w, s.C, w.cond)
		w.block(nil, s.Body)
		if len(s.Else) > 0 {
			w.put(" else")
			w.block(nil, s.Else)
		}
	case api.While:
		w.put("while ")
		parenthesized(w, s.C, w.cond)
		if len(s.Inv) > 0 {
			w.put(" invariant ")
			w.disjunction(s.Inv)
		}
		w.block(nil, s.Body)
	case api.With:
		w.put("with ", s.Name)
		w.block(nil, s.Body)
	case api.Par:
		w.put("par { ")
		w.call(s.Calls[0])
		w.put("; } { ")
		w.call(s.Calls[1])
		w.put("; }")
	default:
		w.simple(s)
		w.put(";")
	}
}

// block writes a block behind the beginning of its line, up to its closing brace.
func (w *writer) block(locals []api.Param, body []api.Stmt) {
	w.put(" {\n")
	w.indent++
	lines(w, locals, w.declaration)
	w.stmts(body)
	w.indent--
	w.margin()
	w.put("}")
}

func (w *writer) declaration(x api.Param) {
	w.param(x)
	w.put(";")
}

// simple writes a statement that ends with a semicolon, without it.
func (w *writer) simple(s api.Stmt) {
	switch s.Kind {
	case api.Assign:
		w.put(s.Name, " = ")
		w.expr(s.E)
	case api.Load:
		w.put(s.Name, " = ", s.From, ".", s.Field)
	case api.Save:
		w.put(s.Name, ".", s.Field, " = ")
		w.expr(s.E)
	case api.New:
		w.put(s.Name, " = new ", s.From)
	case api.Free:
		w.put("free ", s.Name)
	case api.Input:
		w.put(s.Name, " = input")
	case api.Invoke:
		w.call(s.Calls[0])
	case api.Assert:
		w.put("assert ")
		w.cond(s.C)
	}
}

func (w *writer) call(c api.Call) {
	if c.Result != "" {
		w.put(c.Result, " = ")
	}
	w.put(c.Proc)
	parenthesized(w, c.Args, w.exprs)
}
