package check

import (
	"retrofit/api"
	"retrofit/expr"
	"retrofit/rule"
	"retrofit/schema"
)

// Plain: what is kept by its name, and nothing else.
func Plain(old, new api.Schema) rule.Program {
	rules := make([]rule.Rule, len(new.Comps))
	for at, c := range new.Comps {
		rules[at] = plainRule(old, c)
	}
	return rule.Program{From: old.Version, To: new.Version, Rules: rules}
}

func plainRule(old api.Schema, c api.Comp) rule.Rule {
	was, had := schema.Find(old, c.Id)
	if !had {
		return rule.Rule{New: c.Id, Old: fresh}
	}
	exprs := make([][]expr.Ins, len(c.Fields))
	for at, f := range c.Fields {
		exprs[at] = []expr.Ins{plainIns(was, f)}
	}
	return rule.Rule{New: c.Id, Old: was.Id, Exprs: exprs}
}

// plainIns hands a field's elements on, where Formula would let that pass.
func plainIns(was api.Comp, f api.Field) expr.Ins {
	at, had := schema.FieldNamed(was, f.Name)
	here := expr.Ins{Op: expr.Here, A: at}
	if !had || checkUse(was, f, here) != api.OK {
		return expr.Ins{Op: expr.Num}
	}
	return here
}
