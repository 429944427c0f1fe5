// Package reckon works expressions out at rows.
package reckon

import (
	"quarry/api"
	"quarry/rows"
)

// machine does the terms of an expression at one row.
type machine struct {
	row   rows.Row
	stack []rows.Value
}

// Expr tells the value of an expression at a row; the expression has been found right for rows of its types.
// If the row errs, it panics with the row's place.
func Expr(terms []api.Term, row rows.Row) rows.Value {
	m := &machine{row: row}
	for _, term := range terms {
		m.do(term)
	}
	return m.pop()
}

func (m *machine) do(term api.Term) {
	switch term.Op {
	case api.Col, api.Num, api.Fix, api.Word:
		m.push(m.leaf(term))
	case api.Rescale, api.Not, api.IsNull:
		m.push(m.unary(term, m.pop()))
	default:
		right := m.pop()
		left := m.pop()
		m.push(m.binary(term.Op, left, right))
	}
}

func (m *machine) push(v rows.Value) { m.stack = append(m.stack, v) }

func (m *machine) pop() rows.Value {
	last := len(m.stack) - 1
	v := m.stack[last]
	m.stack = m.stack[:last]
	return v
}

// number is a value of what came out of a reckoning; where that had no room, the row can't go on.
func (m *machine) number(n int64, fits bool, scale int) rows.Value {
	if !fits {
		panic(m.row.Place)
	}
	return rows.Value{Num: n, Scale: scale}
}

func (m *machine) leaf(term api.Term) rows.Value {
	switch term.Op {
	case api.Col:
		return m.row.Values[term.A]
	case api.Num:
		return rows.Value{Num: term.V}
	case api.Fix:
		return rows.Value{Num: term.V, Scale: term.A}
	}
	return rows.Value{Text: term.S}
}

func (m *machine) unary(term api.Term, of rows.Value) rows.Value {
	switch {
	case term.Op == api.IsNull:
		return truth(of.Null)
	case of.Null:
		return of
	case term.Op == api.Not:
		return truth(of.False())
	}
	n, fits := rescaled(of.Num, of.Scale, term.A)
	return m.number(n, fits, term.A)
}

func (m *machine) binary(op int, left, right rows.Value) rows.Value {
	switch {
	case op == api.And:
		return both(left, right)
	case op == api.Or:
		return either(left, right)
	case left.Null || right.Null:
		return rows.Null()
	}
	switch op {
	case api.Eq:
		return truth(rows.Compare(left, right) == 0)
	case api.Lt:
		return truth(rows.Compare(left, right) < 0)
	case api.Le:
		return truth(rows.Compare(left, right) <= 0)
	}
	return m.arithmetic(op, left, right)
}

func (m *machine) arithmetic(op int, left, right rows.Value) rows.Value {
	switch op {
	case api.Add:
		n, fits := sum(left.Num, right.Num)
		return m.number(n, fits, left.Scale)
	case api.Sub:
		n, fits := difference(left.Num, right.Num)
		return m.number(n, fits, left.Scale)
	}
	n, fits := product(left.Num, right.Num)
	return m.number(n, fits, left.Scale+right.Scale)
}

func both(left, right rows.Value) rows.Value {
	switch {
	case left.False() || right.False():
		return truth(false)
	case left.Null || right.Null:
		return rows.Null()
	}
	return truth(true)
}

func either(left, right rows.Value) rows.Value {
	switch {
	case left.True() || right.True():
		return truth(true)
	case left.Null || right.Null:
		return rows.Null()
	}
	return truth(false)
}

func truth(is bool) rows.Value {
	if is {
		return rows.Value{Num: 1}
	}
	return rows.Value{}
}
