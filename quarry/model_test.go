package quarry_test

import (
	"math/big"
	"slices"
	"strings"

	"quarry/api"
	"quarry/quarry"
)

// plain is a value as the document tells of it, without a bound: nil, a *big.Int, a string or a bool; and a scale.
type plain struct {
	of    any
	scale int
}

type plainRow struct {
	place  []int
	values []plain
}

// model works plans out by hand: row by row, by numbers without a bound.
type model struct {
	tables []api.Table
	errs   bool // whether the row at hand does
}

func (m *model) number(n *big.Int, scale int) plain {
	m.errs = m.errs || !n.IsInt64()
	return plain{n, scale}
}

func (m *model) scan(given api.Table) []plainRow {
	var list []plainRow
	for i := range given.Cols[0].Nulls {
		row := plainRow{place: ints(i)}
		for _, c := range given.Cols {
			switch {
			case c.Nulls[i]:
				row.values = append(row.values, plain{nil, c.Scale})
			case c.Kind == api.Str:
				row.values = append(row.values, plain{c.Strs[i], 0})
			default:
				row.values = append(row.values, plain{big.NewInt(c.Ints[i]), c.Scale})
			}
		}
		list = append(list, row)
	}
	return list
}

func (m *model) value(terms []api.Term, row plainRow) plain {
	last := terms[len(terms)-1]
	switch last.Op {
	case api.Col:
		return row.values[last.A]
	case api.Num:
		return plain{big.NewInt(last.V), 0}
	case api.Fix:
		return plain{big.NewInt(last.V), last.A}
	case api.Word:
		return plain{last.S, 0}
	}
	rest := terms[:len(terms)-1]
	from := begin(rest)
	right := m.value(rest[from:], row)
	if last.Op == api.Rescale || last.Op == api.Not || last.Op == api.IsNull {
		return m.ofOne(last, right)
	}
	return m.ofTwo(last.Op, m.value(rest[begin(rest[:from]):from], row), right)
}

// begin tells where the last value that terms leave on the stack begins.
func begin(terms []api.Term) int {
	need, i := 1, len(terms)
	for need > 0 {
		i--
		switch terms[i].Op {
		case api.Col, api.Num, api.Fix, api.Word:
			need--
		case api.Rescale, api.Not, api.IsNull:
		default:
			need++
		}
	}
	return i
}

func (m *model) ofOne(term api.Term, of plain) plain {
	switch {
	case term.Op == api.IsNull:
		return plain{of.of == nil, 0}
	case of.of == nil:
		return plain{nil, term.A}
	case term.Op == api.Not:
		return plain{!of.of.(bool), 0}
	}
	n := new(big.Int).Mul(of.of.(*big.Int), power(term.A))
	return m.number(n.Quo(n, power(of.scale)), term.A)
}

func power(scale int) *big.Int {
	return new(big.Int).Exp(big.NewInt(10), big.NewInt(int64(scale)), nil)
}

func (m *model) ofTwo(kind int, left, right plain) plain {
	if kind == api.And || kind == api.Or {
		return logic(left.of, right.of, kind == api.Or)
	}
	scale := left.scale
	if kind == api.Mul {
		scale += right.scale
	}
	if left.of == nil || right.of == nil {
		return plain{nil, scale}
	}
	if a, isText := left.of.(string); isText {
		return compared(kind, strings.Compare(a, right.of.(string)))
	}
	a, b, n := left.of.(*big.Int), right.of.(*big.Int), new(big.Int)
	switch kind {
	case api.Add:
		return m.number(n.Add(a, b), scale)
	case api.Sub:
		return m.number(n.Sub(a, b), scale)
	case api.Mul:
		return m.number(n.Mul(a, b), scale)
	}
	return compared(kind, a.Cmp(b))
}

// logic is And or Or: settles is the value that settles it, be it on either side.
func logic(left, right any, settles bool) plain {
	switch {
	case left == settles || right == settles:
		return plain{settles, 0}
	case left == nil || right == nil:
		return plain{nil, 0}
	}
	return plain{!settles, 0}
}

func compared(kind, order int) plain {
	return plain{order == 0 && kind != api.Lt || order < 0 && kind != api.Eq, 0}
}

// each tells the rows of a Filter or a Project, and the place of the first row that errs (else none).
func (m *model) each(n api.Node, child []plainRow) ([]plainRow, []int) {
	var list []plainRow
	for _, row := range child {
		m.errs = false
		var values []plain
		for _, terms := range n.Exprs {
			values = append(values, m.value(terms, row))
		}
		switch {
		case m.errs:
			return nil, row.place
		case n.Op == api.Project:
			list = append(list, plainRow{row.place, values})
		case values[0].of == true:
			list = append(list, row)
		}
	}
	return list, nil
}

// order tells that of two values that are not null.
func order(one, other plain) int {
	if text, isText := one.of.(string); isText {
		return strings.Compare(text, other.of.(string))
	}
	return one.of.(*big.Int).Cmp(other.of.(*big.Int))
}

// alike tells whether columns of two rows are the same, two nulls being as nulls says.
func alike(one, other plainRow, keys, others []int, nulls bool) bool {
	for i, key := range keys {
		a, b := one.values[key], other.values[others[i]]
		if a.of == nil || b.of == nil {
			if a.of != b.of || !nulls {
				return false
			}
		} else if order(a, b) != 0 {
			return false
		}
	}
	return true
}

func joinByHand(n api.Node, left, right []plainRow) []plainRow {
	var list []plainRow
	for _, other := range right {
		for _, one := range left {
			if alike(one, other, n.Keys, n.Others, false) {
				list = append(list, plainRow{slices.Concat(one.place, other.place), slices.Concat(one.values, other.values)})
			}
		}
	}
	return list
}

// aggregate is that of all rows of a group; what has no room is seen in the model.
func (m *model) aggregate(agg api.Agg, group []plainRow) plain {
	if agg.A == -1 {
		return plain{big.NewInt(int64(len(group))), 0}
	}
	var held []plain
	for _, row := range group {
		if v := row.values[agg.A]; v.of != nil {
			held = append(held, v)
		}
	}
	switch {
	case agg.Kind == api.Count:
		return plain{big.NewInt(int64(len(held))), 0}
	case len(held) == 0:
		return plain{nil, 0}
	case agg.Kind == api.Least:
		return slices.MinFunc(held, order)
	case agg.Kind == api.Greatest:
		return slices.MaxFunc(held, order)
	}
	total := new(big.Int)
	for _, v := range held {
		total.Add(total, v.of.(*big.Int))
	}
	return m.number(total, held[0].scale)
}

// groups tells the rows of a Group, and the least place of one that errs (else none). It goes through the
// child's rows from the last one, so that an order that was not asked for does not come about by itself.
func (m *model) groups(n api.Node, child []plainRow) ([]plainRow, []int) {
	var lists [][]plainRow
	for _, row := range slices.Backward(child) {
		same := func(list []plainRow) bool { return alike(list[0], row, n.Keys, n.Keys, true) }
		if at := slices.IndexFunc(lists, same); at >= 0 {
			lists[at] = append(lists[at], row)
		} else {
			lists = append(lists, []plainRow{row})
		}
	}
	var out []plainRow
	var errs []int
	for _, list := range lists {
		row := plainRow{place: slices.MinFunc(list, byPlace).place}
		for _, key := range n.Keys {
			row.values = append(row.values, list[0].values[key])
		}
		m.errs = false
		for _, agg := range n.Aggs {
			row.values = append(row.values, m.aggregate(agg, list))
		}
		if m.errs && (errs == nil || slices.Compare(row.place, errs) < 0) {
			errs = row.place
		}
		out = append(out, row)
	}
	return out, errs
}

func byPlace(one, other plainRow) int { return slices.Compare(one.place, other.place) }

// node tells the rows of a node, and the least place of one that errs (else none).
func (m *model) node(n api.Node, done [][]plainRow) ([]plainRow, []int) {
	switch n.Op {
	case api.Scan:
		return m.scan(m.tables[n.A]), nil
	case api.Join:
		return joinByHand(n, done[n.A], done[n.B]), nil
	case api.Group:
		return m.groups(n, done[n.A])
	}
	return m.each(n, done[n.A])
}

// answer is what Run should tell of a right plan.
type answer struct {
	table api.Table
	errno api.Errno
	fault api.Fault
}

func (m *model) run(nodes []api.Node) answer {
	var done [][]plainRow
	for i, n := range nodes {
		list, place := m.node(n, done)
		if place != nil {
			return answer{errno: api.ErrOverflow, fault: api.Fault{Node: i, Rows: place}}
		}
		if n.Op == api.Join && len(list) > api.MaxOut {
			return answer{errno: api.ErrLimit, fault: api.Fault{Node: i}}
		}
		slices.SortFunc(list, byPlace)
		done = append(done, list)
	}
	columns, _ := quarry.Types(m.tables, nodes)
	for _, row := range done[len(done)-1] {
		for i, v := range row.values {
			entries := numbered(columns[i].Kind, columns[i].Scale, nil)
			if columns[i].Kind == api.Str {
				entries = words(v.of)
			} else if n, ok := v.of.(*big.Int); ok {
				entries.Ints[0], entries.Nulls[0] = n.Int64(), false
			}
			columns[i].Ints = append(columns[i].Ints, entries.Ints...)
			columns[i].Strs = append(columns[i].Strs, entries.Strs...)
			columns[i].Nulls = append(columns[i].Nulls, entries.Nulls...)
		}
	}
	return answer{table: api.Table{Cols: columns}}
}
