package quarry_test

import (
	"math"
	"slices"
	"strings"
	"testing"

	"quarry/api"
	"quarry/quarry"
)

// sample is the table T of the document's examples.
func sample() api.Table {
	return table(
		api.Column{Kind: api.Int, Ints: []int64{1, 2, 77, 4}, Nulls: []bool{false, false, true, false}},
		api.Column{Kind: api.Dec, Scale: 2, Ints: []int64{150, -25, 300, 77}, Nulls: []bool{false, false, false, true}},
		api.Column{Kind: api.Str, Strs: []string{"x", "y", "x", "z"}, Nulls: make([]bool, 4)},
	)
}

func table(cols ...api.Column) api.Table { return api.Table{Cols: cols} }

// numbers is a column of n entries of a kind that needs Ints.
func numbers(kind, scale, n int) api.Column {
	return api.Column{Kind: kind, Scale: scale, Ints: make([]int64, n), Nulls: make([]bool, n)}
}

func texts(n int) api.Column {
	return api.Column{Kind: api.Str, Strs: make([]string, n), Nulls: make([]bool, n)}
}

// wide is a table of n columns without rows.
func wide(n int) api.Table { return table(slices.Repeat([]api.Column{{Kind: api.Int}}, n)...) }

func letters(n int) string { return strings.Repeat("a", n) }

func col(place int) api.Term { return api.Term{Op: api.Col, A: place} }

func num(v int64) api.Term { return api.Term{Op: api.Num, V: v} }

func fix(v int64, scale int) api.Term { return api.Term{Op: api.Fix, V: v, A: scale} }

func word(s string) api.Term { return api.Term{Op: api.Word, S: s} }

func rescale(scale int) api.Term { return api.Term{Op: api.Rescale, A: scale} }

func op(op int) api.Term { return api.Term{Op: op} }

func expr(terms ...api.Term) []api.Term { return terms }

// yes is an expression that is true at every row.
func yes() []api.Term { return expr(num(1), num(1), op(api.Eq)) }

// nots is an expression of n terms, a Bool.
func nots(n int) []api.Term {
	return append(expr(num(1), op(api.IsNull)), slices.Repeat(expr(op(api.Not)), n-2)...)
}

func scan(place int) api.Node { return api.Node{Op: api.Scan, A: place} }

func filter(child int, terms ...api.Term) api.Node {
	return api.Node{Op: api.Filter, A: child, Exprs: [][]api.Term{terms}}
}

func project(child int, exprs ...[]api.Term) api.Node {
	return api.Node{Op: api.Project, A: child, Exprs: exprs}
}

func join(one, other int, keys, others []int) api.Node {
	return api.Node{Op: api.Join, A: one, B: other, Keys: keys, Others: others}
}

func group(child int, keys []int, aggs ...api.Agg) api.Node {
	return api.Node{Op: api.Group, A: child, Keys: keys, Aggs: aggs}
}

func ints(list ...int) []int { return list }

func plan(nodes ...api.Node) []api.Node { return nodes }

func tables(list ...api.Table) []api.Table { return list }

// chain is a plan of n nodes, each the child of the next one.
func chain(n int) []api.Node {
	nodes := plan(scan(0))
	for len(nodes) < n {
		nodes = append(nodes, filter(len(nodes)-1, yes()...))
	}
	return nodes
}

// edges are numbers that no place, kind, scale or list has.
func edges() []int {
	return ints(math.MinInt, math.MinInt+1, math.MinInt32, -1000, -2, 1000, math.MaxInt32, math.MaxInt-1, math.MaxInt)
}

// expect holds the answers of Check and Types against what the document asks of both.
func expect(t *testing.T, what string, given []api.Table, nodes []api.Node, want api.Errno, place int) {
	t.Helper()
	errno, fault := quarry.Check(given, nodes)
	if errno != want || fault.Node != place || len(fault.Rows) != 0 {
		t.Errorf("%s: Check = %d, %+v, want %d at %d", what, errno, fault, want, place)
	}
	columns, typed := quarry.Types(given, nodes)
	if typed != want || (want == api.OK) != (len(columns) > 0) {
		t.Errorf("%s: Types = %+v, %d, want %d", what, columns, typed, want)
	}
}

// none stands for the kind of what is no expression; no column that Types tells may have it.
const none = -1

// typeOf tells the type of an expression over the columns of a table.
func typeOf(over api.Table, terms []api.Term) api.Column {
	if columns, errno := quarry.Types(tables(over), plan(scan(0), project(0, terms))); errno == api.OK {
		return columns[0]
	}
	if errno, _ := quarry.Check(tables(over), plan(scan(0), filter(0, terms...))); errno == api.OK {
		return api.Column{Kind: api.Bool}
	}
	return api.Column{Kind: none}
}
