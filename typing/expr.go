package typing

import "quarry/api"

// Expr tells the type of an expression over rows of the columns, and whether it is an expression at all.
func Expr(terms []api.Term, cols []Type) (Type, bool) {
	if len(terms) < 1 || len(terms) > api.MaxTerms {
		return Type{}, false
	}
	var stack []Type
	for _, term := range terms {
		need, known := operands(term.Op)
		if !known || len(stack) < need {
			return Type{}, false
		}
		rest := len(stack) - need
		result, ok := apply(term, stack[rest:], cols)
		if !ok {
			return Type{}, false
		}
		stack = append(stack[:rest], result)
	}
	if len(stack) != 1 {
		return Type{}, false
	}
	return stack[0], true
}

// operands tells how many values a term takes from the stack, and whether there is such a term.
func operands(op int) (int, bool) {
	switch op {
	case api.Col, api.Num, api.Fix, api.Word:
		return 0, true
	case api.Rescale, api.Not, api.IsNull:
		return 1, true
	case api.Add, api.Sub, api.Mul, api.Eq, api.Lt, api.Le, api.And, api.Or:
		return 2, true
	}
	return 0, false
}

// apply tells the type of what a term puts on the stack for the types it took from there, the right one last.
func apply(term api.Term, taken []Type, cols []Type) (Type, bool) {
	switch len(taken) {
	case 0:
		return leaf(term, cols)
	case 1:
		return unary(term, taken[0])
	}
	return binary(term.Op, taken[0], taken[1])
}

func leaf(term api.Term, cols []Type) (Type, bool) {
	switch term.Op {
	case api.Col:
		return Column(cols, term.A)
	case api.Num:
		return whole(), true
	case api.Fix:
		return decimal(term.A)
	case api.Word:
		return text(), len(term.S) <= api.MaxText
	}
	return Type{}, false
}

func unary(term api.Term, of Type) (Type, bool) {
	switch term.Op {
	case api.Rescale:
		result, ok := decimal(term.A)
		return result, ok && of.Number()
	case api.Not:
		return truth(), of == truth()
	case api.IsNull:
		return truth(), true
	}
	return Type{}, false
}

func binary(op int, left, right Type) (Type, bool) {
	switch op {
	case api.Add, api.Sub:
		return left, left == right && left.Number()
	case api.Mul:
		return product(left, right)
	case api.Eq, api.Lt, api.Le:
		return truth(), left == right && left != truth()
	case api.And, api.Or:
		return truth(), left == truth() && right == truth()
	}
	return Type{}, false
}

// product may add the scales even where one is an Int, since an Int's scale is 0.
func product(left, right Type) (Type, bool) {
	if !left.Number() || !right.Number() {
		return Type{}, false
	}
	if left.Kind == api.Int && right.Kind == api.Int {
		return whole(), true
	}
	return decimal(left.Scale + right.Scale)
}
