package quarry_test

import (
	"math"
	"math/rand"
	"slices"
	"testing"

	"quarry/api"
	"quarry/quarry"
)

// rightPlans makes tables and plans that are right; the seed is fixed, so they are the same each time.
type rightPlans struct {
	source *rand.Rand
	wild   int // one number in so many is about a bound of 64 bits
}

func (r rightPlans) number() int64 {
	if r.source.Intn(r.wild) == 0 {
		list := far()
		if r.source.Intn(2) == 0 { // so that sums are often at a bound, too
			list = []int64{math.MinInt64, math.MinInt64 / 2, math.MaxInt64/2 + 1, math.MaxInt64}
		}
		return list[r.source.Intn(len(list))]
	}
	return int64(r.source.Intn(7) - 3)
}

func (r rightPlans) text() string {
	list := []string{"", "a", "ab", "b", "B", "\xff", letters(16)}
	return list[r.source.Intn(len(list))]
}

// kind is any type but Bool.
func (r rightPlans) kind() pair {
	list := []pair{{api.Int, 0}, {api.Int, 0}, {api.Str, 0}, {api.Dec, r.source.Intn(api.MaxScale + 1)}, {api.Dec, 2}}
	return list[r.source.Intn(len(list))]
}

func (r rightPlans) table() (api.Table, []pair) {
	var out api.Table
	var types []pair
	n := r.source.Intn(api.MaxRows + 1)
	for range 1 + r.source.Intn(3) {
		of := r.kind()
		c := api.Column{Kind: of.kind, Scale: of.scale}
		for range n {
			c.Nulls = append(c.Nulls, r.source.Intn(5) == 0)
			if of.kind == api.Str {
				c.Strs = append(c.Strs, r.text())
			} else {
				c.Ints = append(c.Ints, r.number())
			}
		}
		out.Cols = append(out.Cols, c)
		types = append(types, of)
	}
	return out, types
}

// leaf is a column of a type, if one is there and the lot falls on it, or a value that stands in the plan.
func (r rightPlans) leaf(of pair, cols []pair) []api.Term {
	var places []int
	for i, c := range cols {
		if c == of {
			places = append(places, i)
		}
	}
	if len(places) > 0 && r.source.Intn(4) > 0 {
		return expr(col(places[r.source.Intn(len(places))]))
	}
	switch of.kind {
	case api.Int:
		return expr(num(r.number()))
	case api.Dec:
		return expr(fix(r.number(), of.scale))
	}
	return expr(word(r.text()))
}

func (r rightPlans) expr(of pair, cols []pair, depth int) []api.Term {
	if of.kind == api.Bool {
		return r.truth(cols, depth)
	}
	if depth == 0 || of.kind == api.Str {
		return r.leaf(of, cols)
	}
	kind := []int{api.Add, api.Sub, api.Mul, api.Rescale}[r.source.Intn(4)]
	left, right := of, of
	switch {
	case kind == api.Rescale && of.kind == api.Int:
		return r.leaf(of, cols)
	case kind == api.Rescale:
		from := []pair{{api.Int, 0}, {api.Dec, r.source.Intn(api.MaxScale + 1)}}[r.source.Intn(2)]
		return append(r.expr(from, cols, depth-1), rescale(of.scale))
	case kind == api.Mul && of.kind == api.Dec:
		part := r.source.Intn(of.scale + 1)
		sides := [][2]pair{{{api.Int, 0}, of}, {of, {api.Int, 0}}, {{api.Dec, part}, {api.Dec, of.scale - part}}}[r.source.Intn(3)]
		left, right = sides[0], sides[1]
	}
	return slices.Concat(r.expr(left, cols, depth-1), r.expr(right, cols, depth-1), expr(op(kind)))
}

func (r rightPlans) truth(cols []pair, depth int) []api.Term {
	of := r.kind()
	if depth == 0 {
		return append(r.leaf(of, cols), op(api.IsNull))
	}
	truth := pair{api.Bool, 0}
	switch kind := []int{api.Eq, api.Lt, api.Le, api.And, api.Or, api.Not, api.IsNull}[r.source.Intn(7)]; kind {
	case api.And, api.Or:
		return slices.Concat(r.expr(truth, cols, depth-1), r.expr(truth, cols, depth-1), expr(op(kind)))
	case api.Not:
		return append(r.expr(truth, cols, depth-1), op(kind))
	case api.IsNull:
		return append(r.expr(of, cols, depth-1), op(kind))
	default:
		return slices.Concat(r.expr(of, cols, depth-1), r.expr(of, cols, depth-1), expr(op(kind)))
	}
}

// short is an expression that is not too long.
func (r rightPlans) short(of pair, cols []pair) []api.Term {
	for {
		if terms := r.expr(of, cols, r.source.Intn(5)); len(terms) <= api.MaxTerms {
			return terms
		}
	}
}

// tree is a plan that grows: some of its nodes are nobody's child yet.
type tree struct {
	rightPlans
	given []api.Table
	types [][]pair // of the tables
	nodes []api.Node
	cols  [][]pair // of each node
	loose []int
}

func (r rightPlans) tree() *tree {
	g := &tree{rightPlans: r}
	for range 1 + r.source.Intn(3) {
		given, types := r.table()
		g.given, g.types = append(g.given, given), append(g.types, types)
	}
	for range 1 + r.source.Intn(4) {
		g.scan()
	}
	return g
}

// add puts a node behind the others; of those that were nobody's child its children are no more.
func (g *tree) add(n api.Node, cols []pair, children ...int) {
	g.loose = slices.DeleteFunc(g.loose, func(place int) bool { return slices.Contains(children, place) })
	g.loose = append(g.loose, len(g.nodes))
	g.nodes, g.cols = append(g.nodes, n), append(g.cols, cols)
}

func (g *tree) scan() {
	place := g.source.Intn(len(g.given))
	g.add(scan(place), g.types[place])
}

func (g *tree) project(child int) {
	var exprs [][]api.Term
	var types []pair
	for range 1 + g.source.Intn(4) {
		of := g.kind()
		exprs, types = append(exprs, g.short(of, g.cols[child])), append(types, of)
	}
	g.add(project(child, exprs...), types, child)
}

func (g *tree) group(child int) {
	cols := g.cols[child]
	var types []pair
	keys := make([]int, g.source.Intn(3))
	for i := range keys {
		keys[i] = g.source.Intn(len(cols))
		types = append(types, cols[keys[i]])
	}
	var aggs []api.Agg
	for range 1 + g.source.Intn(4) {
		agg := api.Agg{Kind: 1 + g.source.Intn(4), A: g.source.Intn(len(cols))}
		of := cols[agg.A]
		switch {
		case agg.Kind == api.Sum && of.kind == api.Str:
			agg.Kind = api.Greatest
		case agg.Kind == api.Count:
			of = pair{api.Int, 0}
			agg.A -= g.source.Intn(agg.A + 2)
		}
		aggs, types = append(aggs, agg), append(types, of)
	}
	g.add(group(child, keys, aggs...), types, child)
}

// join joins two nodes by some of the columns that are of one type, if there are any and there is room for all.
func (g *tree) join(one, other int) bool {
	var keys, others []int
	for i, a := range g.cols[one] {
		for j, b := range g.cols[other] {
			if a == b && len(keys) < api.MaxKeys && (len(keys) == 0 || g.source.Intn(4) == 0) {
				keys, others = append(keys, i), append(others, j)
			}
		}
	}
	cols := slices.Concat(g.cols[one], g.cols[other])
	if len(keys) == 0 || len(cols) > api.MaxCols {
		return false
	}
	g.add(join(one, other, keys, others), cols, one, other)
	return true
}

// above adds a Filter, a Project or a Group.
func (g *tree) above(child int) {
	switch g.source.Intn(3) {
	case 0:
		g.add(filter(child, g.short(pair{api.Bool, 0}, g.cols[child])...), g.cols[child], child)
	case 1:
		g.group(child)
	default:
		g.project(child)
	}
}

// step adds a node of any kind, if it can.
func (g *tree) step() {
	at, other := g.loose[g.source.Intn(len(g.loose))], g.loose[g.source.Intn(len(g.loose))]
	switch {
	case at != other:
		g.join(at, other)
	case g.source.Intn(4) == 0:
		g.scan()
	default:
		g.above(at)
	}
}

// narrow adds a Project of two columns, so that there is room for a Join, and an Int to join by.
func (g *tree) narrow(child int) {
	of := g.kind()
	g.add(project(child, g.leaf(pair{api.Int, 0}, g.cols[child]), g.leaf(of, g.cols[child])), []pair{{api.Int, 0}, of}, child)
}

// call makes tables and a plan of all kinds of nodes; one that is too long is given up.
func (r rightPlans) call() ([]api.Table, []api.Node) {
	for {
		g := r.tree()
		for range r.source.Intn(8) {
			g.step()
		}
		for len(g.loose) > 1 {
			if one, other := g.loose[0], g.loose[1]; !g.join(one, other) {
				g.narrow(one)
				g.narrow(other)
			}
		}
		for range r.source.Intn(4) {
			g.above(len(g.nodes) - 1)
		}
		if len(g.loose) == 1 && len(g.nodes) <= api.MaxNodes {
			return g.given, g.nodes
		}
	}
}

// seenPlans counts what came up, so that it is seen when the plans are too much alike.
type seenPlans struct {
	errnos map[api.Errno]int
	faults map[int]int // of which kind of node
	kinds  map[int]int // of nodes of plans that came out with some rows
	places map[int]int // how many numbers a fault's place has
}

func (s seenPlans) add(nodes []api.Node, want answer) {
	s.errnos[want.errno]++
	if want.errno != api.OK {
		s.faults[nodes[want.fault.Node].Op]++
		s.places[len(want.fault.Rows)]++
	} else if len(want.table.Cols[0].Nulls) > 3 {
		for _, n := range nodes {
			s.kinds[n.Op]++
		}
	}
}

func (s seenPlans) expectMany(t *testing.T) {
	t.Helper()
	many := true
	for _, errno := range []api.Errno{api.OK, api.ErrOverflow, api.ErrLimit} {
		many = many && s.errnos[errno] > 100
	}
	for _, kind := range ints(api.Filter, api.Project, api.Join, api.Group) {
		many = many && s.faults[kind] > 100 && s.kinds[kind] > 100
	}
	for length := range 4 {
		many = many && s.places[length] > 10
	}
	if !many {
		t.Errorf("the plans are too much alike: %+v", s)
	}
}

func TestP7AnyRightPlan(t *testing.T) {
	seen := seenPlans{map[api.Errno]int{}, map[int]int{}, map[int]int{}, map[int]int{}}
	for _, wild := range ints(2, 8, 40, 2000) {
		r := rightPlans{rand.New(rand.NewSource(int64(wild))), wild}
		for range 1500 {
			given, nodes := r.call()
			if errno, fault := quarry.Check(given, nodes); errno != api.OK {
				t.Fatalf("%+v over %+v: Check = %d, %+v", nodes, given, errno, fault)
			}
			want := (&model{tables: given}).run(nodes)
			seen.add(nodes, want)
			for _, by := range teams() {
				got, errno, fault := quarry.Run(given, nodes, by.workers, by.morsel)
				if errno != want.errno || !same(got, want.table) || fault.Node != want.fault.Node || !slices.Equal(fault.Rows, want.fault.Rows) {
					t.Fatalf("P5, P6, P7: %+v over %+v: Run by %v = %+v, %d, %+v, want %+v", nodes, given, by, got, errno, fault, want)
				}
			}
		}
	}
	seen.expectMany(t)
}
