package quarry_test

import (
	"math"
	"testing"

	"quarry/api"
)

// ofType is an expression of each type there is, with that type.
type ofType struct {
	kind, scale int
	terms       []api.Term
}

func everyType() []ofType {
	list := []ofType{
		{api.Int, 0, expr(num(1))},
		{api.Str, 0, expr(word("x"))},
		{api.Bool, 0, expr(num(1), op(api.IsNull))},
	}
	for scale := range api.MaxScale + 1 {
		list = append(list, ofType{api.Dec, scale, expr(fix(1, scale))})
	}
	return list
}

func (o ofType) number() bool { return o.kind == api.Int || o.kind == api.Dec }

func expectType(t *testing.T, what string, terms []api.Term, kind, scale int) {
	t.Helper()
	if got := typeOf(sample(), terms); got.Kind != kind || got.Scale != scale {
		t.Errorf("P3, P4: %s: %+v has the type %d of the scale %d, want %d of %d", what, terms, got.Kind, got.Scale, kind, scale)
	}
}

func TestP3Leaves(t *testing.T) {
	expectType(t, "a column", expr(col(0)), api.Int, 0)
	expectType(t, "a column", expr(col(1)), api.Dec, 2)
	expectType(t, "the last column", expr(col(2)), api.Str, 0)
	expectType(t, "behind the last column", expr(col(3)), none, 0)
	expectType(t, "ahead of the first column", expr(col(-1)), none, 0)
	expectType(t, "the greatest number", expr(num(math.MaxInt64)), api.Int, 0)
	expectType(t, "the least number", expr(num(math.MinInt64)), api.Int, 0)
	expectType(t, "the greatest number of a scale", expr(fix(math.MaxInt64, 3)), api.Dec, 3)
	expectType(t, "the least number of a scale", expr(fix(math.MinInt64, 0)), api.Dec, 0)
	expectType(t, "MaxScale", expr(fix(1, api.MaxScale)), api.Dec, api.MaxScale)
	expectType(t, "one above MaxScale", expr(fix(1, api.MaxScale+1)), none, 0)
	expectType(t, "a scale below 0", expr(fix(1, -1)), none, 0)
	expectType(t, "the empty text", expr(word("")), api.Str, 0)
	expectType(t, "MaxText", expr(word(letters(api.MaxText))), api.Str, 0)
	expectType(t, "one above MaxText", expr(word(letters(api.MaxText+1))), none, 0)
	expectType(t, "MaxText bytes of letters of two", expr(word("ääääääää")), api.Str, 0)
	expectType(t, "too many bytes of letters of two", expr(word("äääääääää")), none, 0)
	for _, n := range edges() {
		expectType(t, "a column at the edge of numbers", expr(col(n)), none, 0)
		expectType(t, "a scale at the edge of numbers", expr(fix(1, n)), none, 0)
		expectType(t, "a term at the edge of numbers", expr(op(n)), none, 0)
		expectType(t, "a term at the edge of numbers, behind others", expr(num(1), num(1), op(n)), none, 0)
	}
}

func TestP3UnusedFieldsOfTerms(t *testing.T) {
	long := letters(api.MaxText + 1)
	for _, n := range append(edges(), -1) {
		expectType(t, "a Col with others", expr(api.Term{Op: api.Col, A: 1, V: math.MinInt64, S: long}), api.Dec, 2)
		expectType(t, "a Num with others", expr(api.Term{Op: api.Num, A: n, S: long}), api.Int, 0)
		expectType(t, "a Fix with others", expr(api.Term{Op: api.Fix, A: 1, S: long}), api.Dec, 1)
		expectType(t, "a Word with others", expr(api.Term{Op: api.Word, A: n, V: math.MaxInt64}), api.Str, 0)
		expectType(t, "an Add with others", expr(num(1), num(1), api.Term{Op: api.Add, A: n, S: long}), api.Int, 0)
		expectType(t, "an IsNull with others", expr(num(1), api.Term{Op: api.IsNull, A: n, S: long}), api.Bool, 0)
	}
}

func TestP3Unary(t *testing.T) {
	for _, of := range everyType() {
		expectType(t, "IsNull", append(of.terms, op(api.IsNull)), api.Bool, 0)
		not := none
		if of.kind == api.Bool {
			not = api.Bool
		}
		expectType(t, "Not", append(of.terms, op(api.Not)), not, 0)
		for scale := range api.MaxScale + 1 {
			if of.number() {
				expectType(t, "Rescale of a number", append(of.terms, rescale(scale)), api.Dec, scale)
			} else {
				expectType(t, "Rescale of no number", append(of.terms, rescale(scale)), none, 0)
			}
		}
		for _, scale := range append(edges(), -1, api.MaxScale+1) {
			expectType(t, "Rescale to no scale", append(of.terms, rescale(scale)), none, 0)
		}
	}
}

// wantOfTwo is the type of a term of two values, by the document's words.
func wantOfTwo(term int, left, right ofType) (int, int) {
	same := left.kind == right.kind && left.scale == right.scale
	switch {
	case (term == api.Add || term == api.Sub) && same && left.number():
		return left.kind, left.scale
	case term == api.Mul && left.kind == api.Int && right.number():
		return right.kind, right.scale
	case term == api.Mul && left.kind == api.Dec && right.kind == api.Int:
		return api.Dec, left.scale
	case term == api.Mul && left.kind == api.Dec && right.kind == api.Dec && left.scale+right.scale <= 6:
		return api.Dec, left.scale + right.scale
	case term >= api.Eq && term <= api.Le && same && left.kind != api.Bool:
		return api.Bool, 0
	case (term == api.And || term == api.Or) && left.kind == api.Bool && right.kind == api.Bool:
		return api.Bool, 0
	}
	return none, 0
}

func TestP3Binary(t *testing.T) {
	for _, term := range ints(api.Add, api.Sub, api.Mul, api.Eq, api.Lt, api.Le, api.And, api.Or) {
		for _, left := range everyType() {
			for _, right := range everyType() {
				kind, scale := wantOfTwo(term, left, right)
				expectType(t, "two values", append(append(expr(), left.terms...), append(right.terms, op(term))...), kind, scale)
			}
		}
	}
}

func TestP3Stack(t *testing.T) {
	expectType(t, "nil", nil, none, 0)
	expectType(t, "no terms", expr(), none, 0)
	expectType(t, "two values at the end", expr(num(1), num(2)), none, 0)
	expectType(t, "two values of which one is a Bool", expr(num(1), num(1), op(api.IsNull)), none, 0)
	for term := api.Add; term <= api.IsNull; term++ {
		expectType(t, "nothing on the stack", expr(op(term)), none, 0)
		expectType(t, "too little, and then enough", expr(op(term), num(1)), none, 0)
	}
	for _, term := range ints(api.Add, api.Sub, api.Mul, api.Eq, api.Lt, api.Le) {
		expectType(t, "one on the stack for a term of two", expr(num(1), op(term)), none, 0)
	}
	expectType(t, "one Bool for And", expr(num(1), op(api.IsNull), op(api.And)), none, 0)
	expectType(t, "one Bool for Or", expr(num(1), op(api.IsNull), op(api.Or)), none, 0)
	expectType(t, "no such term", expr(op(0)), none, 0)
	expectType(t, "no such term", expr(op(-1)), none, 0)
	expectType(t, "no such term", expr(op(api.IsNull+1)), none, 0)
	expectType(t, "no such term behind a value", expr(num(1), op(api.IsNull+1)), none, 0)
	expectType(t, "MaxTerms", nots(api.MaxTerms), api.Bool, 0)
	expectType(t, "one above MaxTerms", nots(api.MaxTerms+1), none, 0)
	expectType(t, "a deep stack", expr(num(1), num(2), num(3), num(4), op(api.Add), op(api.Sub), op(api.Mul)), api.Int, 0)
	expectType(t, "the last one is the right one", expr(word("x"), num(1), num(2), op(api.Add), op(api.IsNull)), none, 0)
	expectType(t, "what is below stays", expr(fix(1, 2), num(1), num(2), op(api.Add), op(api.Mul)), api.Dec, 2)
	expectType(t, "a wrong type on the way", expr(num(1), word("x"), op(api.Add), op(api.IsNull)), none, 0)
	expectType(t, "no room, told only at work", expr(num(math.MaxInt64), num(1), op(api.Add)), api.Int, 0)
}

func TestP3WhichExpression(t *testing.T) {
	given := tables(sample())
	bad := expr(col(9))
	for _, wrong := range [][]api.Term{bad, yes(), nil} {
		expect(t, "P3: the first expression is none", given, plan(scan(0), project(0, wrong, expr(col(0)))), api.ErrType, 1)
		expect(t, "P3: the last expression is none", given, plan(scan(0), project(0, expr(col(0)), wrong)), api.ErrType, 1)
	}
	expect(t, "P3: a column of the table that the child has not", given, plan(scan(0), project(0, expr(col(2))), project(1, expr(col(1)))), api.ErrType, 2)
	expect(t, "P3: a type that the child has changed", given, plan(scan(0), project(0, expr(col(2))), filter(1, col(0), word("x"), op(api.Eq))), api.OK, 0)
}
