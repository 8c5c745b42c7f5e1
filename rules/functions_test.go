// Package rules holds tests of the rules that every layer follows.
package rules

import (
	"armature/bounds"
	"armature/brute"
	"armature/checker"
	"armature/circuit"
	"armature/closure"
	"armature/cnf"
	"armature/compile"
	"armature/core"
	"armature/count"
	"armature/distance"
	"armature/enumerate"
	"armature/eval"
	"armature/grow"
	"armature/lasso"
	"armature/lexer"
	"armature/matrix"
	"armature/minscope"
	"armature/model"
	"armature/narrow"
	"armature/orbit"
	"armature/parser"
	"armature/permute"
	"armature/printer"
	"armature/project"
	"armature/proof"
	"armature/refine"
	"armature/relation"
	"armature/repair"
	"armature/script"
	"armature/session"
	"armature/solver"
	"armature/symbreak"
	"armature/table"
	"armature/typing"
	"armature/unitprop"
	"armature/universe"
)

// named is a function that the document lists.
type named struct {
	name string
	call any
}

// functions returns all functions that the document lists, methods aside.
func functions() []named {
	return []named{
		{"lexer.Lex", lexer.Lex}, {"parser.Parse", parser.Parse}, {"parser.ParseFormula", parser.ParseFormula}, {"parser.ValidNode", parser.ValidNode},
		{"printer.Formula", printer.Formula}, {"printer.Spec", printer.Spec}, {"printer.EqualNodes", printer.EqualNodes}, {"printer.EqualSpecs", printer.EqualSpecs},
		{"typing.Check", typing.Check}, {"typing.CheckFormula", typing.CheckFormula}, {"typing.Type", typing.Type}, {"typing.Inline", typing.Inline},
		{"universe.Valid", universe.Valid}, {"universe.Atoms", universe.Atoms}, {"universe.SortOf", universe.SortOf}, {"universe.First", universe.First},
		{"universe.Rank", universe.Rank}, {"universe.Tuple", universe.Tuple}, {"universe.Full", universe.Full}, {"universe.Name", universe.Name},
		{"relation.Valid", relation.Valid}, {"relation.Union", relation.Union}, {"relation.Inter", relation.Inter}, {"relation.Diff", relation.Diff},
		{"relation.Product", relation.Product}, {"relation.Join", relation.Join}, {"relation.Transpose", relation.Transpose}, {"relation.Closure", relation.Closure},
		{"relation.Override", relation.Override}, {"relation.Iden", relation.Iden}, {"relation.In", relation.In}, {"relation.Equal", relation.Equal},
		{"model.Valid", model.Valid}, {"model.Next", model.Next}, {"model.At", model.At}, {"model.Equal", model.Equal}, {"model.SameTrace", model.SameTrace}, {"model.Shorten", model.Shorten},
		{"eval.Expr", eval.Expr}, {"eval.Int", eval.Int}, {"eval.Formula", eval.Formula}, {"eval.Holds", eval.Holds},
		{"bounds.Default", bounds.Default}, {"bounds.Valid", bounds.Valid}, {"bounds.Contains", bounds.Contains}, {"bounds.Free", bounds.Free}, {"bounds.Meet", bounds.Meet}, {"bounds.Equal", bounds.Equal},
		{"narrow.Fixpoint", narrow.Fixpoint}, {"narrow.Conjuncts", narrow.Conjuncts}, {"narrow.Upper", narrow.Upper},
		{"permute.Valid", permute.Valid}, {"permute.Compose", permute.Compose}, {"permute.Inverse", permute.Inverse}, {"permute.Rel", permute.Rel}, {"permute.Model", permute.Model}, {"permute.All", permute.All},
		{"refine.Classes", refine.Classes}, {"refine.Symmetric", refine.Symmetric}, {"refine.Group", refine.Group}, {"refine.Swaps", refine.Swaps},
		{"circuit.New", circuit.New}, {"circuit.Valid", circuit.Valid}, {"circuit.Not", circuit.Not}, {"circuit.Input", circuit.Input}, {"circuit.And", circuit.And}, {"circuit.Or", circuit.Or}, {"circuit.Iff", circuit.Iff}, {"circuit.Eval", circuit.Eval},
		{"matrix.Valid", matrix.Valid}, {"matrix.Const", matrix.Const}, {"matrix.Value", matrix.Value}, {"matrix.Union", matrix.Union}, {"matrix.Inter", matrix.Inter}, {"matrix.Diff", matrix.Diff}, {"matrix.Product", matrix.Product},
		{"matrix.Join", matrix.Join}, {"matrix.Transpose", matrix.Transpose}, {"matrix.Override", matrix.Override}, {"matrix.In", matrix.In}, {"matrix.Some", matrix.Some}, {"matrix.Lone", matrix.Lone},
		{"closure.Squaring", closure.Squaring}, {"closure.Stepwise", closure.Stepwise}, {"closure.Smaller", closure.Smaller}, {"closure.Acyclic", closure.Acyclic},
		{"count.Sorter", count.Sorter}, {"count.Totalizer", count.Totalizer}, {"count.AtLeast", count.AtLeast}, {"count.Add", count.Add}, {"count.Less", count.Less}, {"count.Value", count.Value},
		{"compile.Expr", compile.Expr}, {"compile.Formula", compile.Formula},
		{"lasso.Inputs", lasso.Inputs}, {"lasso.States", lasso.States}, {"lasso.Problem", lasso.Problem}, {"lasso.Decode", lasso.Decode}, {"lasso.Encode", lasso.Encode},
		{"cnf.Valid", cnf.Valid}, {"cnf.Tseitin", cnf.Tseitin}, {"cnf.Extend", cnf.Extend}, {"cnf.Satisfies", cnf.Satisfies}, {"cnf.Simplify", cnf.Simplify},
		{"unitprop.Propagate", unitprop.Propagate}, {"unitprop.Implies", unitprop.Implies}, {"unitprop.Reasons", unitprop.Reasons}, {"unitprop.Levels", unitprop.Levels},
		{"solver.New", solver.New}, {"proof.Valid", proof.Valid}, {"proof.Encode", proof.Encode}, {"proof.Decode", proof.Decode}, {"proof.Shift", proof.Shift}, {"proof.Equal", proof.Equal},
		{"checker.Check", checker.Check}, {"checker.Refutes", checker.Refutes}, {"checker.SymmetryValid", checker.SymmetryValid},
		{"symbreak.Literals", symbreak.Literals}, {"symbreak.Predicate", symbreak.Predicate}, {"symbreak.Breaking", symbreak.Breaking}, {"symbreak.Leader", symbreak.Leader},
		{"brute.Models", brute.Models}, {"brute.Instances", brute.Instances}, {"brute.Less", brute.Less},
		{"orbit.Canonical", orbit.Canonical}, {"orbit.Isomorphic", orbit.Isomorphic}, {"orbit.Orbit", orbit.Orbit}, {"orbit.Stabilizer", orbit.Stabilizer},
		{"enumerate.New", enumerate.New}, {"enumerate.All", enumerate.All}, {"project.Project", project.Project}, {"project.All", project.All}, {"project.Different", project.Different},
		{"distance.Distance", distance.Distance}, {"distance.Nearest", distance.Nearest}, {"distance.Minimal", distance.Minimal}, {"distance.Maximal", distance.Maximal},
		{"core.Minimal", core.Minimal}, {"core.Refutation", core.Refutation}, {"core.Satisfiable", core.Satisfiable}, {"grow.New", grow.New}, {"grow.Embed", grow.Embed},
		{"minscope.Least", minscope.Least}, {"minscope.Order", minscope.Order}, {"minscope.Growing", minscope.Growing}, {"repair.Apply", repair.Apply}, {"repair.Diff", repair.Diff}, {"repair.Repair", repair.Repair},
		{"table.Format", table.Format}, {"table.Parse", table.Parse}, {"session.New", session.New}, {"script.Parse", script.Parse}, {"script.Format", script.Format}, {"script.Run", script.Run},
	}
}
