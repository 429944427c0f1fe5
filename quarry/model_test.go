package quarry_test

import (
	"math/big"
	"math/rand"
	"slices"
	"strings"
	"testing"

	"quarry/api"
	"quarry/quarry"
)

// plain is a value as the document tells of it, without a bound: nil, a *big.Int, a string or a bool; and a scale.
type plain struct {
	of    any
	scale int
}

type plainRow struct {
	place  int
	values []plain
}

// model works plans of Scan, Filter and Project out by hand: row by row, by numbers without a bound.
type model struct {
	tables []api.Table
	errs   bool // whether the row at hand does
}

func (m *model) number(n *big.Int, scale int) plain {
	m.errs = m.errs || !n.IsInt64()
	return plain{n, scale}
}

func (m *model) scan(given api.Table) []plainRow {
	var list []plainRow
	for i := range given.Cols[0].Nulls {
		row := plainRow{place: i}
		for _, c := range given.Cols {
			switch {
			case c.Nulls[i]:
				row.values = append(row.values, plain{nil, c.Scale})
			case c.Kind == api.Str:
				row.values = append(row.values, plain{c.Strs[i], 0})
			default:
				row.values = append(row.values, plain{big.NewInt(c.Ints[i]), c.Scale})
			}
		}
		list = append(list, row)
	}
	return list
}

func (m *model) value(terms []api.Term, row plainRow) plain {
	last := terms[len(terms)-1]
	switch last.Op {
	case api.Col:
		return row.values[last.A]
	case api.Num:
		return plain{big.NewInt(last.V), 0}
	case api.Fix:
		return plain{big.NewInt(last.V), last.A}
	case api.Word:
		return plain{last.S, 0}
	}
	rest := terms[:len(terms)-1]
	from := begin(rest)
	right := m.value(rest[from:], row)
	if last.Op == api.Rescale || last.Op == api.Not || last.Op == api.IsNull {
		return m.ofOne(last, right)
	}
	return m.ofTwo(last.Op, m.value(rest[begin(rest[:from]):from], row), right)
}

// begin tells where the last value that terms leave on the stack begins.
func begin(terms []api.Term) int {
	need, i := 1, len(terms)
	for need > 0 {
		i--
		switch terms[i].Op {
		case api.Col, api.Num, api.Fix, api.Word:
			need--
		case api.Rescale, api.Not, api.IsNull:
		default:
			need++
		}
	}
	return i
}

func (m *model) ofOne(term api.Term, of plain) plain {
	switch {
	case term.Op == api.IsNull:
		return plain{of.of == nil, 0}
	case of.of == nil:
		return plain{nil, term.A}
	case term.Op == api.Not:
		return plain{!of.of.(bool), 0}
	}
	n := new(big.Int).Mul(of.of.(*big.Int), power(term.A))
	return m.number(n.Quo(n, power(of.scale)), term.A)
}

func power(scale int) *big.Int {
	return new(big.Int).Exp(big.NewInt(10), big.NewInt(int64(scale)), nil)
}

func (m *model) ofTwo(kind int, left, right plain) plain {
	if kind == api.And || kind == api.Or {
		return logic(left.of, right.of, kind == api.Or)
	}
	scale := left.scale
	if kind == api.Mul {
		scale += right.scale
	}
	if left.of == nil || right.of == nil {
		return plain{nil, scale}
	}
	if a, isText := left.of.(string); isText {
		return compared(kind, strings.Compare(a, right.of.(string)))
	}
	a, b, n := left.of.(*big.Int), right.of.(*big.Int), new(big.Int)
	switch kind {
	case api.Add:
		return m.number(n.Add(a, b), scale)
	case api.Sub:
		return m.number(n.Sub(a, b), scale)
	case api.Mul:
		return m.number(n.Mul(a, b), scale)
	}
	return compared(kind, a.Cmp(b))
}

// logic is And or Or: settles is the value that settles it, be it on either side.
func logic(left, right any, settles bool) plain {
	switch {
	case left == settles || right == settles:
		return plain{settles, 0}
	case left == nil || right == nil:
		return plain{nil, 0}
	}
	return plain{!settles, 0}
}

func compared(kind, order int) plain {
	return plain{order == 0 && kind != api.Lt || order < 0 && kind != api.Eq, 0}
}

// node tells the rows of a node, and the place of the first row that errs (else none).
func (m *model) node(n api.Node, done [][]plainRow) ([]plainRow, int) {
	if n.Op == api.Scan {
		return m.scan(m.tables[n.A]), none
	}
	var list []plainRow
	for _, row := range done[n.A] {
		m.errs = false
		var values []plain
		for _, terms := range n.Exprs {
			values = append(values, m.value(terms, row))
		}
		switch {
		case m.errs:
			return nil, row.place
		case n.Op == api.Project:
			list = append(list, plainRow{row.place, values})
		case values[0].of == true:
			list = append(list, row)
		}
	}
	return list, none
}

// answer is what Run should tell of a right plan.
type answer struct {
	table api.Table
	errno api.Errno
	fault api.Fault
}

func (m *model) run(nodes []api.Node) answer {
	var done [][]plainRow
	for i, n := range nodes {
		list, place := m.node(n, done)
		if place != none {
			return answer{errno: api.ErrOverflow, fault: api.Fault{Node: i, Rows: ints(place)}}
		}
		done = append(done, list)
	}
	columns, _ := quarry.Types(m.tables, nodes)
	for _, row := range done[len(done)-1] {
		for i, v := range row.values {
			entries := numbered(columns[i].Kind, columns[i].Scale, nil)
			if columns[i].Kind == api.Str {
				entries = words(v.of)
			} else if n, ok := v.of.(*big.Int); ok {
				entries.Ints[0], entries.Nulls[0] = n.Int64(), false
			}
			columns[i].Ints = append(columns[i].Ints, entries.Ints...)
			columns[i].Strs = append(columns[i].Strs, entries.Strs...)
			columns[i].Nulls = append(columns[i].Nulls, entries.Nulls...)
		}
	}
	return answer{table: api.Table{Cols: columns}}
}

// rightPlans makes tables and plans that are right; the seed is fixed, so they are the same each time.
type rightPlans struct {
	source *rand.Rand
	wild   int // one number in so many is about a bound of 64 bits
}

func (r rightPlans) number() int64 {
	if r.source.Intn(r.wild) == 0 {
		list := far()
		return list[r.source.Intn(len(list))]
	}
	return int64(r.source.Intn(21) - 10)
}

func (r rightPlans) text() string {
	list := []string{"", "a", "ab", "b", "B", "\xff", letters(16)}
	return list[r.source.Intn(len(list))]
}

// kind is any type but Bool.
func (r rightPlans) kind() pair {
	list := []pair{{api.Int, 0}, {api.Int, 0}, {api.Str, 0}, {api.Dec, r.source.Intn(api.MaxScale + 1)}, {api.Dec, 2}}
	return list[r.source.Intn(len(list))]
}

func (r rightPlans) table() (api.Table, []pair) {
	var out api.Table
	var types []pair
	n := r.source.Intn(api.MaxRows + 1)
	for range 1 + r.source.Intn(5) {
		of := r.kind()
		c := api.Column{Kind: of.kind, Scale: of.scale}
		for range n {
			c.Nulls = append(c.Nulls, r.source.Intn(5) == 0)
			if of.kind == api.Str {
				c.Strs = append(c.Strs, r.text())
			} else {
				c.Ints = append(c.Ints, r.number())
			}
		}
		out.Cols = append(out.Cols, c)
		types = append(types, of)
	}
	return out, types
}

// leaf is a column of a type, if one is there and the lot falls on it, or a value that stands in the plan.
func (r rightPlans) leaf(of pair, cols []pair) []api.Term {
	var places []int
	for i, c := range cols {
		if c == of {
			places = append(places, i)
		}
	}
	if len(places) > 0 && r.source.Intn(4) > 0 {
		return expr(col(places[r.source.Intn(len(places))]))
	}
	switch of.kind {
	case api.Int:
		return expr(num(r.number()))
	case api.Dec:
		return expr(fix(r.number(), of.scale))
	}
	return expr(word(r.text()))
}

func (r rightPlans) expr(of pair, cols []pair, depth int) []api.Term {
	if of.kind == api.Bool {
		return r.truth(cols, depth)
	}
	if depth == 0 || of.kind == api.Str {
		return r.leaf(of, cols)
	}
	kind := []int{api.Add, api.Sub, api.Mul, api.Rescale}[r.source.Intn(4)]
	left, right := of, of
	switch {
	case kind == api.Rescale && of.kind == api.Int:
		return r.leaf(of, cols)
	case kind == api.Rescale:
		from := []pair{{api.Int, 0}, {api.Dec, r.source.Intn(api.MaxScale + 1)}}[r.source.Intn(2)]
		return append(r.expr(from, cols, depth-1), rescale(of.scale))
	case kind == api.Mul && of.kind == api.Dec:
		part := r.source.Intn(of.scale + 1)
		sides := [][2]pair{{{api.Int, 0}, of}, {of, {api.Int, 0}}, {{api.Dec, part}, {api.Dec, of.scale - part}}}[r.source.Intn(3)]
		left, right = sides[0], sides[1]
	}
	return slices.Concat(r.expr(left, cols, depth-1), r.expr(right, cols, depth-1), expr(op(kind)))
}

func (r rightPlans) truth(cols []pair, depth int) []api.Term {
	of := r.kind()
	if depth == 0 {
		return append(r.leaf(of, cols), op(api.IsNull))
	}
	truth := pair{api.Bool, 0}
	switch kind := []int{api.Eq, api.Lt, api.Le, api.And, api.Or, api.Not, api.IsNull}[r.source.Intn(7)]; kind {
	case api.And, api.Or:
		return slices.Concat(r.expr(truth, cols, depth-1), r.expr(truth, cols, depth-1), expr(op(kind)))
	case api.Not:
		return append(r.expr(truth, cols, depth-1), op(kind))
	case api.IsNull:
		return append(r.expr(of, cols, depth-1), op(kind))
	default:
		return slices.Concat(r.expr(of, cols, depth-1), r.expr(of, cols, depth-1), expr(op(kind)))
	}
}

// short is an expression that is not too long.
func (r rightPlans) short(of pair, cols []pair) []api.Term {
	for {
		if terms := r.expr(of, cols, r.source.Intn(5)); len(terms) <= api.MaxTerms {
			return terms
		}
	}
}

func (r rightPlans) call() ([]api.Table, []api.Node) {
	given, cols := r.table()
	nodes := plan(scan(0))
	for len(nodes) < 1+r.source.Intn(6) {
		child := len(nodes) - 1
		if r.source.Intn(2) == 0 {
			nodes = append(nodes, filter(child, r.short(pair{api.Bool, 0}, cols)...))
			continue
		}
		var exprs [][]api.Term
		var types []pair
		for range 1 + r.source.Intn(4) {
			of := r.kind()
			exprs, types = append(exprs, r.short(of, cols)), append(types, of)
		}
		nodes, cols = append(nodes, project(child, exprs...)), types
	}
	return tables(given), nodes
}

func TestP7AnyRightPlan(t *testing.T) {
	seen := map[api.Errno]int{}
	long := 0
	for _, wild := range ints(2, 12, 2000) {
		r := rightPlans{rand.New(rand.NewSource(int64(wild))), wild}
		for range 1500 {
			given, nodes := r.call()
			want := (&model{tables: given}).run(nodes)
			seen[want.errno]++
			if want.errno == api.OK && len(nodes) > 2 && len(want.table.Cols[0].Nulls) > 5 {
				long++
			}
			for _, by := range teams() {
				got, errno, fault := quarry.Run(given, nodes, by.workers, by.morsel)
				if errno != want.errno || !same(got, want.table) || fault.Node != want.fault.Node || !slices.Equal(fault.Rows, want.fault.Rows) {
					t.Fatalf("P5, P6, P7: %+v over %+v: Run by %v = %+v, %d, %+v, want %+v", nodes, given, by, got, errno, fault, want)
				}
			}
		}
	}
	if seen[api.OK] < 500 || seen[api.ErrOverflow] < 500 || long < 300 {
		t.Errorf("the plans are too much alike: %v, %d long ones", seen, long)
	}
}

func TestP7EveryTeam(t *testing.T) {
	given := tables(table(counting(api.MaxRows), numbers(api.Dec, 2, api.MaxRows), texts(api.MaxRows)))
	for _, nodes := range [][]api.Node{
		plan(scan(0)),
		plan(scan(0), filter(0, num(13), col(0), op(api.Lt)), project(1, expr(col(2)), expr(col(0), col(0), op(api.Mul)))),
		plan(scan(0), project(0, expr(col(0)), above(29), above(17), above(33)), filter(1, asks(always())...)),
		plan(scan(0), filter(0, asks(above(38))...), project(1, always())),
	} {
		first, firstErrno, firstFault := quarry.Run(given, nodes, 1, 1)
		if firstErrno != api.OK && firstErrno != api.ErrOverflow {
			t.Fatalf("P7: %+v: Run = %d, %+v", nodes, firstErrno, firstFault)
		}
		for workers := 1; workers <= api.MaxWorkers; workers++ {
			for morsel := 1; morsel <= api.MaxMorsel; morsel++ {
				got, errno, fault := quarry.Run(given, nodes, workers, morsel)
				if errno != firstErrno || !same(got, first) || fault.Node != firstFault.Node || !slices.Equal(fault.Rows, firstFault.Rows) {
					t.Fatalf("P7: %+v: Run by %d, %d = %+v, %d, %+v, by one %+v, %d, %+v", nodes, workers, morsel, got, errno, fault, first, firstErrno, firstFault)
				}
			}
		}
	}
}
