package quarry_test

import (
	"math"
	"slices"
	"testing"

	"quarry/api"
)

type planCase struct {
	what  string
	plan  []api.Node
	want  api.Errno
	place int
}

func expectAll(t *testing.T, cases []planCase) {
	t.Helper()
	given := tables(sample(), wide(4), wide(5))
	for _, c := range cases {
		expect(t, "P3: "+c.what, given, c.plan, c.want, c.place)
	}
}

func TestP3Examples(t *testing.T) {
	one := tables(sample())
	for _, c := range []planCase{
		{"no nodes", nil, api.ErrPlan, 0},
		{"Scan, Scan", plan(scan(0), scan(0)), api.ErrPlan, 0},
		{"a Filter that is no Bool", plan(scan(0), filter(0, col(0))), api.ErrType, 1},
		{"Scan 1 of one table", plan(scan(1)), api.ErrPlan, 0},
		{"a Join of one with itself", plan(scan(0), join(0, 0, ints(0), ints(0))), api.ErrPlan, 1},
		{"a Filter", plan(scan(0), filter(0, col(0), num(1), op(api.Eq), op(api.Not))), api.OK, 0},
		{"a Project", plan(scan(0), project(0, expr(col(1), fix(1, 2), op(api.Add)), expr(col(0), col(1), op(api.Mul)), expr(col(1), rescale(1)))), api.OK, 0},
		{"a Project that has no room", plan(scan(0), project(0, expr(col(0), num(math.MaxInt64), op(api.Mul)))), api.OK, 0},
		{"a Group", plan(scan(0), group(0, ints(2), api.Agg{Kind: api.Count, A: -1}, api.Agg{Kind: api.Count, A: 0}, api.Agg{Kind: api.Sum, A: 1}, api.Agg{Kind: api.Greatest, A: 0})), api.OK, 0},
		{"a Join", plan(scan(0), scan(0), join(0, 1, ints(2), ints(2))), api.OK, 0},
	} {
		expect(t, "P3: "+c.what, one, c.plan, c.want, c.place)
	}
}

func TestP3Kinds(t *testing.T) {
	for _, n := range append(edges(), -1, 0, 6) {
		expectAll(t, []planCase{
			{"a first node of no kind", plan(api.Node{Op: n}), api.ErrPlan, 0},
			{"a later node of no kind", plan(scan(0), api.Node{Op: n, Exprs: [][]api.Term{yes()}}), api.ErrPlan, 1},
		})
	}
}

func TestP3NumberOfNodes(t *testing.T) {
	odd := chain(api.MaxNodes)
	odd[9] = filter(8, col(0))
	expectAll(t, []planCase{
		{"an empty list of nodes", []api.Node{}, api.ErrPlan, 0},
		{"MaxNodes", chain(api.MaxNodes), api.OK, 0},
		{"one above MaxNodes", chain(api.MaxNodes + 1), api.ErrPlan, api.MaxNodes},
		{"two above MaxNodes", chain(api.MaxNodes + 2), api.ErrPlan, api.MaxNodes},
		{"one above MaxNodes, that one with a wrong type", append(chain(api.MaxNodes), filter(9, col(0))), api.ErrPlan, api.MaxNodes},
		{"one above MaxNodes, the one ahead with a wrong type", append(odd, filter(9, yes()...)), api.ErrType, 9},
		{"one above MaxNodes, all of them loose", slices.Repeat(plan(scan(0)), api.MaxNodes+1), api.ErrPlan, api.MaxNodes},
		{"MaxNodes, all of them loose", slices.Repeat(plan(scan(0)), api.MaxNodes), api.ErrPlan, 0},
	})
}

func TestP3ScannedTable(t *testing.T) {
	expectAll(t, []planCase{
		{"the last table", plan(scan(2)), api.OK, 0},
		{"behind the last table", plan(scan(3)), api.ErrPlan, 0},
		{"ahead of the first table", plan(scan(-1)), api.ErrPlan, 0},
	})
	for _, n := range edges() {
		expectAll(t, []planCase{{"a table at the edge of numbers", plan(scan(n)), api.ErrPlan, 0}})
	}
}

// withChild has, for each kind that has a child A alone, a node with that child.
func withChild(child int) []api.Node {
	return plan(filter(child, yes()...), project(child, yes()[:1]), group(child, ints(0)))
}

func TestP3OneChild(t *testing.T) {
	for _, n := range append(edges(), -1, 2, 3) {
		for _, node := range withChild(n) {
			expectAll(t, []planCase{{"a child that is not ahead", plan(scan(0), filter(0, yes()...), node), api.ErrPlan, 2}})
		}
	}
	for _, node := range withChild(0) {
		expectAll(t, []planCase{
			{"a child of itself", plan(node), api.ErrPlan, 0},
			{"a child", plan(scan(0), node), api.OK, 0},
			{"a child of another Filter", plan(scan(0), filter(0, yes()...), node), api.ErrPlan, 2},
			{"a child of another Project", plan(scan(0), project(0, expr(col(0))), node), api.ErrPlan, 2},
			{"a child of another Group", plan(scan(0), group(0, ints(0)), node), api.ErrPlan, 2},
			{"a Join's child A", plan(scan(1), scan(1), join(0, 1, ints(0), ints(0)), node), api.ErrPlan, 3},
			{"a Join's child B", plan(scan(1), scan(1), join(1, 0, ints(0), ints(0)), node), api.ErrPlan, 3},
		})
	}
}

func TestP3TwoChildren(t *testing.T) {
	key := ints(0)
	for _, n := range append(edges(), -1, 2, 3) {
		expectAll(t, []planCase{
			{"a Join's A that is not ahead", plan(scan(0), scan(0), join(n, 1, key, key)), api.ErrPlan, 2},
			{"a Join's B that is not ahead", plan(scan(0), scan(0), join(0, n, key, key)), api.ErrPlan, 2},
			{"a Join's A and B that are not ahead", plan(scan(0), scan(0), join(n, n, key, key)), api.ErrPlan, 2},
		})
	}
	expectAll(t, []planCase{
		{"a Join", plan(scan(0), scan(0), join(0, 1, key, key)), api.OK, 0},
		{"a Join the other way", plan(scan(0), scan(0), join(1, 0, key, key)), api.OK, 0},
		{"a Join of children far ahead", plan(scan(1), scan(1), filter(1, yes()...), filter(2, yes()...), join(3, 0, key, key)), api.OK, 0},
		{"a Join's A is a child already", plan(scan(0), filter(0, yes()...), join(0, 1, key, key)), api.ErrPlan, 2},
		{"a Join's B is a child already", plan(scan(0), filter(0, yes()...), join(1, 0, key, key)), api.ErrPlan, 2},
		{"a Join of one with itself", plan(scan(0), scan(0), join(1, 1, key, key)), api.ErrPlan, 2},
	})
}

func TestP3LooseNodes(t *testing.T) {
	expectAll(t, []planCase{
		{"the first is nobody's", plan(scan(0), scan(0), filter(1, yes()...)), api.ErrPlan, 0},
		{"the one in the middle is nobody's", plan(scan(0), scan(0), filter(0, yes()...)), api.ErrPlan, 1},
		{"the one ahead of the last is nobody's", plan(scan(0), filter(0, yes()...), scan(0)), api.ErrPlan, 1},
		{"a Join is nobody's", plan(scan(1), scan(1), scan(0), filter(1, yes()...), join(3, 0, ints(0), ints(0)), filter(2, yes()...)), api.ErrPlan, 4},
		{"two are nobody's", plan(scan(0), scan(0), scan(0), filter(0, yes()...)), api.ErrPlan, 1},
		{"only the last is nobody's", plan(scan(0), scan(0), filter(0, yes()...), join(2, 1, ints(0), ints(0))), api.OK, 0},
		{"one is nobody's, and a later one has a wrong type", plan(scan(0), scan(0), filter(1, col(0))), api.ErrType, 2},
		{"one is nobody's, and a later one no child", plan(scan(0), scan(0), filter(9, yes()...)), api.ErrPlan, 2},
	})
}

func TestP3Counts(t *testing.T) {
	count := func(n int) []api.Agg { return slices.Repeat([]api.Agg{{Kind: api.Count, A: -1}}, n) }
	exprs := func(n int) [][]api.Term { return slices.Repeat([][]api.Term{expr(col(0))}, n) }
	keys := func(n int) []int { return make([]int, n) }
	expectAll(t, []planCase{
		{"a Filter of nil", plan(scan(0), api.Node{Op: api.Filter}), api.ErrPlan, 1},
		{"a Filter of two", plan(scan(0), api.Node{Op: api.Filter, Exprs: [][]api.Term{yes(), yes()}}), api.ErrPlan, 1},
		{"a Project of nil", plan(scan(0), project(0)), api.ErrPlan, 1},
		{"a Project of none", plan(scan(0), project(0, [][]api.Term{}...)), api.ErrPlan, 1},
		{"a Project of one", plan(scan(0), project(0, exprs(1)...)), api.OK, 0},
		{"a Project of MaxExprs", plan(scan(0), project(0, exprs(api.MaxExprs)...)), api.OK, 0},
		{"a Project of one above MaxExprs", plan(scan(0), project(0, exprs(api.MaxExprs+1)...)), api.ErrPlan, 1},
		{"a Join of nil", plan(scan(0), scan(0), join(0, 1, nil, nil)), api.ErrPlan, 2},
		{"a Join without Keys", plan(scan(0), scan(0), join(0, 1, nil, keys(1))), api.ErrPlan, 2},
		{"a Join without Others", plan(scan(0), scan(0), join(0, 1, keys(1), nil)), api.ErrPlan, 2},
		{"a Join with more Keys", plan(scan(0), scan(0), join(0, 1, keys(3), keys(2))), api.ErrPlan, 2},
		{"a Join with more Others", plan(scan(0), scan(0), join(0, 1, keys(2), keys(3))), api.ErrPlan, 2},
		{"a Join of MaxKeys", plan(scan(0), scan(0), join(0, 1, keys(api.MaxKeys), keys(api.MaxKeys))), api.OK, 0},
		{"a Join of one above MaxKeys", plan(scan(0), scan(0), join(0, 1, keys(api.MaxKeys+1), keys(api.MaxKeys+1))), api.ErrPlan, 2},
		{"a Join of one above MaxKeys in Keys", plan(scan(0), scan(0), join(0, 1, keys(api.MaxKeys+1), keys(api.MaxKeys))), api.ErrPlan, 2},
		{"a Join of one above MaxKeys in Others", plan(scan(0), scan(0), join(0, 1, keys(api.MaxKeys), keys(api.MaxKeys+1))), api.ErrPlan, 2},
		{"a Group of MaxKeys", plan(scan(0), group(0, keys(api.MaxKeys))), api.OK, 0},
		{"a Group of one above MaxKeys", plan(scan(0), group(0, keys(api.MaxKeys+1))), api.ErrPlan, 1},
		{"a Group of MaxAggs", plan(scan(0), group(0, nil, count(api.MaxAggs)...)), api.OK, 0},
		{"a Group of one above MaxAggs", plan(scan(0), group(0, nil, count(api.MaxAggs+1)...)), api.ErrPlan, 1},
		{"a Group of none", plan(scan(0), group(0, nil)), api.ErrType, 1},
		{"a Group of MaxCols", plan(scan(0), group(0, keys(2), count(6)...)), api.OK, 0},
		{"a Group of MaxCols, MaxKeys of them keys", plan(scan(0), group(0, keys(4), count(4)...)), api.OK, 0},
		{"a Group of one above MaxCols", plan(scan(0), group(0, keys(3), count(6)...)), api.ErrType, 1},
		{"a Group of one above MaxCols, MaxKeys of them keys", plan(scan(0), group(0, keys(4), count(5)...)), api.ErrType, 1},
	})
}

func TestP3OtherListsAreNotLookedAt(t *testing.T) {
	junk := api.Node{A: math.MinInt, B: math.MaxInt, Exprs: make([][]api.Term, 99), Keys: make([]int, 99), Others: make([]int, 98), Aggs: make([]api.Agg, 99)}
	junk.Keys[0], junk.Others[0] = math.MinInt, math.MaxInt
	scanned, filtered, projected, joined, grouped := junk, junk, junk, junk, junk
	scanned.Op, scanned.A = api.Scan, 0
	filtered.Op, filtered.A, filtered.Exprs = api.Filter, 0, [][]api.Term{yes()}
	projected.Op, projected.A, projected.Exprs = api.Project, 0, [][]api.Term{expr(col(0))}
	joined.Op, joined.A, joined.B, joined.Keys, joined.Others = api.Join, 0, 1, ints(0), ints(0)
	grouped.Op, grouped.A, grouped.Keys, grouped.Aggs = api.Group, 0, ints(0), nil
	expectAll(t, []planCase{
		{"a Scan with other lists", plan(scanned), api.OK, 0},
		{"a Filter with other lists", plan(scan(0), filtered), api.OK, 0},
		{"a Project with other lists", plan(scan(0), projected), api.OK, 0},
		{"a Join with other lists", plan(scan(0), scan(0), joined), api.OK, 0},
		{"a Group with other lists", plan(scan(0), grouped), api.OK, 0},
	})
}

func TestP3JoinTypes(t *testing.T) {
	by := func(key, other int) []api.Node {
		return plan(scan(0), scan(0), join(0, 1, ints(0, key), ints(0, other)))
	}
	for _, n := range append(edges(), -1, 3) {
		expectAll(t, []planCase{
			{"a key that is no column", by(n, 0), api.ErrType, 2},
			{"another that is no column", by(0, n), api.ErrType, 2},
			{"neither is a column", by(n, n), api.ErrType, 2},
		})
	}
	for key := range 3 {
		for other := range 3 {
			c := planCase{"columns of two types", by(key, other), api.ErrType, 2}
			if key == other {
				c = planCase{"columns of one type", by(key, other), api.OK, 0}
			}
			expectAll(t, []planCase{c})
		}
	}
	scaled := func(one, other int) []api.Node {
		return plan(scan(0), scan(0), project(0, expr(fix(1, one))), project(1, expr(fix(1, other))), join(2, 3, ints(0), ints(0)))
	}
	whole := plan(scan(0), scan(0), project(0, expr(fix(1, 0))), project(1, expr(num(1))), join(2, 3, ints(0), ints(0)))
	expectAll(t, []planCase{
		{"Dec of one scale", scaled(6, 6), api.OK, 0},
		{"Dec of two scales", scaled(6, 5), api.ErrType, 4},
		{"Dec of the scale 0, and Int", whole, api.ErrType, 4},
		{"the key is a column of A's alone", plan(scan(1), scan(0), join(0, 1, ints(3), ints(0))), api.OK, 0},
		{"the key is a column of B's alone", plan(scan(0), scan(1), join(0, 1, ints(3), ints(0))), api.ErrType, 2},
		{"the other is a column of B's alone", plan(scan(0), scan(1), join(0, 1, ints(0), ints(3))), api.OK, 0},
		{"the other is a column of A's alone", plan(scan(1), scan(0), join(0, 1, ints(0), ints(3))), api.ErrType, 2},
	})
}

func TestP3JoinWidth(t *testing.T) {
	expectAll(t, []planCase{
		{"MaxCols", plan(scan(1), scan(1), join(0, 1, ints(3), ints(3))), api.OK, 0},
		{"one above MaxCols", plan(scan(1), scan(2), join(0, 1, ints(0), ints(0))), api.ErrType, 2},
		{"one above MaxCols, the other way", plan(scan(1), scan(2), join(1, 0, ints(0), ints(0))), api.ErrType, 2},
		{"a Join of a Join above MaxCols", plan(scan(0), scan(0), join(0, 1, ints(0), ints(0)), scan(0), join(2, 3, ints(0), ints(0))), api.ErrType, 4},
		{"a Join of a Join, its later columns", plan(scan(0), scan(0), join(0, 1, ints(0), ints(0)), filter(2, col(5), word("x"), op(api.Eq))), api.OK, 0},
	})
	many := table(numbers(api.Int, 0, api.MaxRows))
	expect(t, "P3: a Join of more than MaxOut rows is right", tables(many), plan(scan(0), scan(0), join(0, 1, ints(0), ints(0))), api.OK, 0)
}

func TestP3GroupTypes(t *testing.T) {
	of := func(kind, place int) []api.Node {
		return plan(scan(0), group(0, ints(0), api.Agg{Kind: api.Count, A: -1}, api.Agg{Kind: kind, A: place}))
	}
	for _, n := range append(edges(), -1, 3) {
		expectAll(t, []planCase{{"a key that is no column", plan(scan(0), group(0, ints(0, n))), api.ErrType, 1}})
		for kind := api.Count; kind <= api.Greatest; kind++ {
			c := planCase{"an aggregate of no column", of(kind, n), api.ErrType, 1}
			if kind == api.Count && n == -1 {
				c = planCase{"a Count of rows", of(kind, n), api.OK, 0}
			}
			expectAll(t, []planCase{c})
		}
	}
	for _, n := range append(edges(), -1, 0, 5) {
		for place := -1; place <= 3; place++ {
			expectAll(t, []planCase{{"an aggregate of no kind", of(n, place), api.ErrType, 1}})
		}
	}
	for place := range 3 {
		sum := planCase{"a Sum of numbers", of(api.Sum, place), api.OK, 0}
		if place == 2 {
			sum = planCase{"a Sum of texts", of(api.Sum, place), api.ErrType, 1}
		}
		expectAll(t, []planCase{
			sum,
			{"a Count of a column", of(api.Count, place), api.OK, 0},
			{"a Least", of(api.Least, place), api.OK, 0},
			{"a Greatest", of(api.Greatest, place), api.OK, 0},
		})
	}
}

func TestP3TwoSlipsOfNodes(t *testing.T) {
	expectAll(t, []planCase{
		{"a wrong type ahead of a wrong plan", plan(scan(0), filter(0, col(0)), scan(9)), api.ErrType, 1},
		{"a wrong type ahead of a loose node", plan(scan(0), filter(0, col(0)), scan(0)), api.ErrType, 1},
		{"a wrong plan ahead of a wrong type", plan(scan(0), filter(7, yes()...), filter(0, col(0))), api.ErrPlan, 1},
		{"two wrong types", plan(scan(0), project(0, yes()), filter(1, col(0))), api.ErrType, 1},
		{"two wrong plans", plan(scan(3), filter(1, yes()...)), api.ErrPlan, 0},
		{"no child, and no Bool", plan(scan(0), filter(1, col(0))), api.ErrPlan, 1},
		{"a child of another, and no Bool", plan(scan(0), filter(0, yes()...), filter(0, col(0))), api.ErrPlan, 2},
		{"two expressions, neither a Bool", plan(scan(0), api.Node{Op: api.Filter, Exprs: make([][]api.Term, 2)}), api.ErrPlan, 1},
		{"too many expressions, all of them Bools", plan(scan(0), project(0, slices.Repeat([][]api.Term{yes()}, 9)...)), api.ErrPlan, 1},
		{"one with itself, and keys that are no columns", plan(scan(0), join(0, 0, ints(7), ints(-1))), api.ErrPlan, 1},
		{"fewer Others, and types that do not fit", plan(scan(0), scan(0), join(0, 1, ints(0, 9), ints(1))), api.ErrPlan, 2},
		{"types that do not fit, and too many columns", plan(scan(1), scan(2), join(0, 1, ints(0), ints(7))), api.ErrType, 2},
		{"too many keys that are no columns", plan(scan(0), group(0, ints(9, 9, 9, 9, 9))), api.ErrPlan, 1},
		{"too many aggregates of no kind", plan(scan(0), group(0, nil, make([]api.Agg, 7)...)), api.ErrPlan, 1},
		{"too many aggregates, and too many columns", plan(scan(0), group(0, ints(0, 0, 0), slices.Repeat([]api.Agg{{Kind: api.Count, A: -1}}, 7)...)), api.ErrPlan, 1},
		{"a Group of no child, and of none", plan(scan(0), group(4, nil)), api.ErrPlan, 1},
		{"no kind, and no child", plan(scan(0), api.Node{Op: 9, A: 9, B: 9}), api.ErrPlan, 1},
	})
}
