package types

import (
	"slices"

	"sepal/api"
	"sepal/tree"
)

// formula checks a valid tree: that the existential variables differ from each other is a part of that.
func (c *checker) formula(scope []api.Param, f api.Formula) {
	for _, x := range f.Exists {
		demand(!has(scope, x.Name), api.ErrTwice, x.Name)
	}
	c.types(f.Exists)
	v := variables{scope: slices.Concat(scope, f.Exists)}
	for _, a := range f.Pure {
		v.comparison(a.Kind, a.A, a.B)
	}
	for _, x := range f.Cells {
		v.args(x.Args, c.cellParams(x), x.Name)
	}
	determined(f)
}

func (c *checker) formulas(scope []api.Param, l []api.Formula) {
	for _, f := range l {
		c.formula(scope, f)
	}
}

// cellParams returns what the arguments of a cell have to fit.
func (c *checker) cellParams(x api.Cell) []api.Param {
	if x.Kind == api.Pred {
		return find(c.Defs, x.Name, defName).Params
	}
	r := find(c.Records, x.Name, recordName)
	return slices.Concat([]api.Param{{Type: r.Name}}, r.Fields)
}

// A step makes variables known as soon as those that it needs are known.
type step struct{ needs, makes []string }

// steps are those that the points-to and the equations of a formula permit.
func steps(f api.Formula) []step {
	var l []step
	for _, x := range f.Cells {
		if x.Kind == api.PointsTo {
			l = append(l, step{tree.Vars(x.Args[0]), plain(x.Args[1:]...)})
		}
	}
	for _, a := range f.Pure {
		if a.Kind == api.Eq {
			l = append(l, step{tree.Vars(a.A), plain(a.B)}, step{tree.Vars(a.B), plain(a.A)})
		}
	}
	return l
}

// plain returns the names of the expressions that are variables.
func plain(l ...api.Expr) []string {
	var names []string
	for _, e := range l {
		if e.Kind == api.Var {
			names = append(names, e.Name)
		}
	}
	return names
}

// determined takes steps as long as they make variables known, and demands that none is left unknown.
func determined(f api.Formula) {
	unknown := map[string]bool{}
	for _, x := range f.Exists {
		if x.Type == integer {
			unknown[x.Name] = true
		}
	}
	isUnknown := func(name string) bool { return unknown[name] }
	l := steps(f)
	for before := -1; before != len(unknown); {
		before = len(unknown)
		for _, s := range l {
			if slices.ContainsFunc(s.needs, isUnknown) {
				continue
			}
			for _, name := range s.makes {
				delete(unknown, name)
			}
		}
	}
	for _, x := range f.Exists {
		demand(!unknown[x.Name], api.ErrUnknown, x.Name)
	}
}
